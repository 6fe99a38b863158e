import PyProof.Rows.All
import Wide.All
import OpenK.AllK
import Wide.FinOn
import HandS.ForMost
import HandS.Exc
import HandS.TryOnly
import HandS.WordsExc
import HandS.WordsList
import HandS.Wide
import HandS.IsInst
import HandS.SetIn
import HandS.Deep
import HandS.ExcField
import HandS.ExcIs
import KE.KExcIs
import KE.KExcSuper
import PySem.Challenge.RW_exitdeeds_k01_numbers
set_option Elab.async false
set_option linter.all false
set_option maxRecDepth 100000
namespace Ov
open PySem PySem.Spec PyProof.Rows L2

/-! ### a def that may be called -/
/-- the def called x keeps sp -/
def Cal (P : Program) (w : World) (K : PySem.W.Frag) (mg : Str → Option Value) (base : Heap) (CX : CXT) (k : Nat) (x : Str) (ps : List Str) (sp : Sp) : Prop :=
  ∃ (f : Addr) (fd : FuncData), FnOk P w K mg base CX k f fd ps sp ∧ mg x = some (.ref f) ∧ PySem.W.keepIn K (.ref f) = true ∧ Binds K fd ps []
/-- the def called x stands in the text -/
def Has (K : PySem.W.Frag) (mg : Str → Option Value) (x : Str) (st : Stmt) (ps : List Str) : Prop :=
  ∃ (f : Addr) (fd : FuncData), Fun K x x st f fd ∧ mg x = some (.ref f) ∧ ∀ us : List Value, us.length = ps.length → bindArgs fd ⟨us, []⟩ = pure (ps.zip us)
section
variable {P : Program} {w : World} {K : PySem.W.Frag} {mg : Str → Option Value} {base : Heap} {CX : CXT}
theorem Cal.mono {j k : Nat} {x : Str} {ps : List Str} {sp : Sp} (c : Cal P w K mg base CX j x ps sp) (h : j ≤ k) : Cal P w K mg base CX k x ps sp := by
  obtain ⟨f, fd, F, m, kp, b⟩ := c
  exact ⟨f, fd, F.mono h, m, kp, b⟩
theorem Cal.imp {k : Nat} {x : Str} {ps : List Str} {sp sp' : Sp} (c : Cal P w K mg base CX k x ps sp) (h : ∀ vs H Q E, sp' vs H Q E → sp vs H Q E) : Cal P w K mg base CX k x ps sp' := by
  obtain ⟨f, fd, F, m, kp, b⟩ := c
  exact ⟨f, fd, F.imp h, m, kp, b⟩
theorem Has.ok {x : Str} {st : Stmt} {N ps : List Str} {k : Nat} {sp : Sp} (h : Has K mg x st ps) (S : FnScope N ps (defScope st)) (len : ∀ vs H Q E, sp vs H Q E → vs.length = ps.length)
    (hbody : ∀ (f : Addr) (cdv : Value) (A : Around) (outer : List Env) (s : Shared) (H : Hp) (vs : List V) (Q : VK) (E : XK), Room k (A.deeper (envOfC x (defScope st) s.heap.objs.size f cdv)) → sp vs H Q E →
      ∃ t, PSs (cxOf CX0 P w K mg base N x (defScope st) f cdv A outer s H E).nox (defBody st) t ∧ t { nx := fun _ H' => Q .non H', rt := Q } (start N vs) H) : Cal P w K mg base CX0 (k + 1) x ps sp := by
  obtain ⟨f, fd, F, m, b⟩ := h
  exact ⟨f, fd, F.ok S len (fun cdv A outer s H vs Q E hr h => hbody f cdv A outer s H vs Q E hr h), m, F.kp, .all b⟩
theorem Has.okX {x : Str} {st : Stmt} {N ps : List Str} {k : Nat} {sp : Sp} (h : Has K mg x st ps) (S : FnScope N ps (defScope st)) (len : ∀ vs H Q E, sp vs H Q E → vs.length = ps.length)
    (hbody : ∀ (f : Addr) (cdv : Value) (A : Around) (outer : List Env) (s : Shared) (H : Hp) (vs : List V) (Q : VK) (E : XK), Room k (A.deeper (envOfC x (defScope st) s.heap.objs.size f cdv)) → sp vs H Q E →
      ∃ t, PSs (cxOf (L2.CX P w) P w K mg base N x (defScope st) f cdv A outer s H E) (defBody st) t ∧ t { nx := fun _ H' => Q .non H', rt := Q } (start N vs) H) : Cal P w K mg base (L2.CX P w) (k + 1) x ps sp := by
  obtain ⟨f, fd, F, m, b⟩ := h
  exact ⟨f, fd, F.okX S len (fun cdv A outer s H vs Q E hr h => hbody f cdv A outer s H vs Q E hr h), m, F.kp, .all b⟩
end
/-- a promise that asks for what cannot be -/
theorem Has.void {P : Program} {w : World} {K : PySem.W.Frag} {mg : Str → Option Value} {base : Heap} {CX : CXT} {k : Nat} {x : Str} {st : Stmt} {ps : List Str} {sp : Sp} (h : Has K mg x st ps) (no : ∀ vs H Q E, ¬ sp vs H Q E) : Cal P w K mg base CX k x ps sp := by
  obtain ⟨f, fd, F, m, b⟩ := h
  exact ⟨f, fd, ⟨fun vs H Q E h => (no _ _ _ _ h).elim, fun A outer s H args us vs Q E hr he hb hv hs => (no _ _ _ _ hs).elim⟩, m, F.kp, .all b⟩
theorem has_mk {K : PySem.W.Frag} {h : Heap} {mg : Str → Option Value} (X : K.In h) (G : h.Ns mainGlobals mg) {x : Str} {st : Stmt} {ps : List Str} {f : Addr} {oc : Value} {od an : Option Addr} {osl : Array (Option Value)} {kV doc pm cdv ct : Value}
    (a : PySem.W.nsIn K mainGlobals x = some (some (.ref f))) (l : K.lookup f = some ⟨oc, od, .func (PySem.W.fnOf x x (defArgs st) (defBody st) (defScope st) .none kV doc pm an cdv ct), osl⟩)
    (c : PySem.W.codeIn K cdv x = true) (k : PySem.W.keepIn K (.ref f) = true)
    (hb : ∀ (kV doc pm : Value) (an : Option Addr) (cdv ct : Value) (us : List Value), us.length = ps.length → bindArgs (PySem.W.fnOf x x (defArgs st) (defBody st) (defScope st) .none kV doc pm an cdv ct) ⟨us, []⟩ = pure (ps.zip us)) : Has K mg x st ps :=
  ⟨f, _, fun_mk l c k, PySem.W.mg_of X G a, hb kV doc pm an cdv ct⟩
/-- the law itself -/
theorem law_end {P : Program} {w : World} {K : PySem.W.Frag} {mg : Str → Option Value} {k : Nat} {st : Stmt} {x y : Str} {sp : Sp} {CX : CXT} {fa : Addr} (h : Has K mg x st [y]) (hfa : mg x = some (.ref fa))
    (F : ∀ base : Heap, K.In base → base.Ns mainGlobals mg → ∀ (f : Addr) (fd : FuncData), Fun K x x st f fd → FnOk P w K mg base CX k f fd [y] sp) :
    ∃ fd : FuncData, (∀ (s : Shared) (u : Value), BindsTo s fd ⟨[u], []⟩ [(y, u)]) ∧ ∀ base : Heap, K.In base → base.Ns mainGlobals mg → FnOk P w K mg base CX k fa fd [y] sp := by
  obtain ⟨f, fd, Fu, m, b⟩ := h
  have e : fa = f := Value.ref.inj (Option.some.inj (hfa.symm.trans m))
  subst e
  exact ⟨fd, fun s u => .of_eq (b [u] rfl), fun base hi hn => F base hi hn _ fd Fu⟩
section
variable {X : Cx} {k : Nat} {x : Str} {ps : List Str} {sp : Sp} {p pos : Pos} {e : Expr} {es : List Expr} {t : TA}
theorem pe_fn (c : Cal X.prog X.w X.K X.mg X.base CX0 k x ps sp) (hr : Room k X.A) (hg : Gl X x) (ha : PA X (e :: es) t) (hdb : (x == ("__debug__" : Str)) = false := by decide)
    (he : starEach (e :: es) X.env = (false, eval e X.env) :: starEach es X.env := by rfl) (hpl : (backTo pos (starEach es X.env)).any (·.1) = false := by rfl) : PE X (.Call (.Name x p) (e :: es) [] pos) (tCall sp [] E0 t) := by
  obtain ⟨f, fd, F, m, kp, b⟩ := c
  exact pe_call F hr hg m kp b .nil pass0 ha hdb he hpl
theorem pe_fn0 (c : Cal X.prog X.w X.K X.mg X.base CX0 k x ps sp) (hr : Room k X.A) (hg : Gl X x) (hdb : (x == ("__debug__" : Str)) = false := by decide) : PE X (.Call (.Name x p) [] [] pos) (tCall sp [] E0 tNil) := by
  obtain ⟨f, fd, F, m, kp, b⟩ := c
  exact pe_call0 F hr hg m kp b .nil pass0 hdb
end

/-! ### operators by what they meet -/
theorem OpR.or {X : Cx} {f : Value → Value → Sem Value} {r r' : R2} (a : OpR X f r) (b : OpR X f r') : OpR X f (fun x y H Q => r x y H Q ∨ r' x y H Q) := by
  intro pins s σ H x y v u Q I rx ry h
  rcases h with h | h
  · exact a pins s σ H x y v u Q I rx ry h
  · exact b pins s σ H x y v u Q I rx ry h
theorem OpR.of {X : Cx} {f : Value → Value → Sem Value} {r r' : R2} (a : OpR X f r) (h : ∀ x y H Q, r' x y H Q → r x y H Q) : OpR X f r' := by
  intro pins s σ H x y v u Q I rx ry q
  exact a pins s σ H x y v u Q I rx ry (h _ _ _ _ q)

/-- + : two ints, two texts, two lists, two tuples -/
def oAdd (K : PySem.W.Frag) : R2 := fun x y H Q => match x, y with
  | .int i, .int j => Q (.int (i + j)) H
  | .str a, .str b => a.length + b.length ≤ sizeLine ∧ Q (.str (a ++ b)) H
  | .ref p, .ref q => rCat (.ref p) (.ref q) H Q ∨ rCatT K (.ref p) (.ref q) H Q
  | _, _ => False
theorem op_oAdd {X : Cx} : OpR X (binaryOp .Add) (oAdd X.K) := by
  refine OpR.of (OpR.or op_add (OpR.or op_add_str (OpR.or op_cat op_catT))) fun x y H Q h => ?_
  unfold oAdd at h
  split at h
  · exact .inl ⟨_, _, rfl, rfl, h⟩
  · exact .inr (.inl ⟨_, _, rfl, rfl, h.1, h.2⟩)
  · rcases h with h | h
    · exact .inr (.inr (.inl h))
    · exact .inr (.inr (.inr h))
  · exact h.elim
def oSub : R2 := fun x y H Q => match x, y with
  | .int i, .int j => Q (.int (i - j)) H
  | _, _ => False
theorem op_oSub {X : Cx} : OpR X (binaryOp .Sub) oSub := by
  refine OpR.of op_sub fun x y H Q h => ?_
  unfold oSub at h
  split at h
  · exact ⟨_, _, rfl, rfl, h⟩
  · exact h.elim
theorem op_mul_str {X : Cx} : OpR X (binaryOp .Mult) (fun x y H Q => ∃ z n, x = .str z ∧ y = .int n ∧ MulOk z n ∧ Q (.str (Txt.mul z n)) H) := by
  intro pins s σ H x y v u Q I rx ry h
  obtain ⟨z, n, rfl, rfl, hok, q⟩ := h
  obtain ⟨t, rfl⟩ := rx
  obtain ⟨t', rfl⟩ := ry
  exact SB.mul hok fun t' k => ⟨.str (Txt.mul z n), H, I.tok k, ⟨_, rfl⟩, q⟩
/-- * : two ints, a text and an int, a list and an int -/
def oMul : R2 := fun x y H Q => match x, y with
  | .int i, .int j => CMulW i j ∧ Q (.int (i * j)) H
  | .str a, .int n => MulOk a n ∧ Q (.str (Txt.mul a n)) H
  | .ref p, .int n => rRep (.ref p) (.int n) H Q
  | _, _ => False
theorem op_oMul {X : Cx} : OpR X (binaryOp .Mult) oMul := by
  refine OpR.of (OpR.or op_mulW (OpR.or op_mul_str op_rep)) fun x y H Q h => ?_
  unfold oMul at h
  split at h
  · exact .inl ⟨_, _, rfl, rfl, h.1, h.2⟩
  · exact .inr (.inl ⟨_, _, rfl, rfl, h.1, h.2⟩)
  · exact .inr (.inr h)
  · exact h.elim
def oMod : R2 := fun x y H Q => match x, y with
  | .int i, .int j => 0 < j ∧ Q (.int (i % j)) H
  | _, _ => False
theorem op_oMod {X : Cx} : OpR X (binaryOp .Mod) oMod := by
  refine OpR.of op_mod fun x y H Q h => ?_
  unfold oMod at h
  split at h
  · exact ⟨_, _, rfl, rfl, h.1, h.2⟩
  · exact h.elim
def oDiv : R2 := fun x y H Q => match x, y with
  | .int i, .int j => CDivW i j ∧ Q (.int (i / j)) H
  | _, _ => False
theorem op_oDiv {X : Cx} : OpR X (binaryOp .FloorDiv) oDiv := by
  refine OpR.of op_fdivW fun x y H Q h => ?_
  unfold oDiv at h
  split at h
  · exact ⟨_, _, rfl, rfl, h.1, h.2⟩
  · exact h.elim
def oPow : R2 := fun x y H Q => match x, y with
  | .int i, .int j => CPow i j ∧ Q (.int (i ^ j.toNat)) H
  | _, _ => False
theorem op_oPow {X : Cx} : OpR X (binaryOp .Pow) oPow := by
  refine OpR.of op_pow fun x y H Q h => ?_
  unfold oPow at h
  split at h
  · exact ⟨_, _, rfl, rfl, h.1, h.2⟩
  · exact h.elim
/-- an order of two ints -/
def oCmp (p : Int → Int → Bool) : R2 := fun x y H Q => match x, y with
  | .int i, .int j => Q (.bl (p i j)) H
  | _, _ => False
abbrev oLt : R2 := oCmp fun i j => decide (i < j)
abbrev oLe : R2 := oCmp fun i j => decide (i ≤ j)
abbrev oGt : R2 := oCmp fun i j => decide (j < i)
abbrev oGe : R2 := oCmp fun i j => decide (j ≤ i)
theorem oCmp_of {p : Int → Int → Bool} {x y : V} {H : Hp} {Q : VK} (h : oCmp p x y H Q) : rI0 (fun i j => .bl (p i j)) x y H Q := by
  unfold oCmp at h
  split at h
  · exact ⟨_, _, rfl, rfl, h⟩
  · exact h.elim
theorem op_oLt {X : Cx} : OpR X (compareOp .Lt) oLt := OpR.of op_lt fun _ _ _ _ h => oCmp_of h
theorem op_oLe {X : Cx} : OpR X (compareOp .LtE) oLe := OpR.of op_le fun _ _ _ _ h => oCmp_of h
theorem op_oGt {X : Cx} : OpR X (compareOp .Gt) oGt := OpR.of op_gt fun _ _ _ _ h => oCmp_of h
theorem op_oGe {X : Cx} : OpR X (compareOp .GtE) oGe := OpR.of op_ge fun _ _ _ _ h => oCmp_of h
def oIsN : R2 := fun x y H Q => y = .non ∧ Q (.bl (decide (x = .non))) H
def oNotN : R2 := fun x y H Q => y = .non ∧ Q (.bl (!decide (x = .non))) H
theorem op_oIsN {X : Cx} : OpR X (compareOp .Is) oIsN := op_isN
theorem op_oNotN {X : Cx} : OpR X (compareOp .IsNot) oNotN := op_notN
/-- == of flat values, and of data as a whole -/
def oEq (K : PySem.W.Frag) : R2 := fun x y H Q => rEq x y H Q ∨ rEqD K x y H Q
def oNe (K : PySem.W.Frag) : R2 := fun x y H Q => rNe x y H Q ∨ rNeD K x y H Q
theorem op_oEq {X : Cx} (hu : X.A.units + 65 < cLine) : OpR X (compareOp .Eq) (oEq X.K) := OpR.or op_eq (op_eqD (by omega))
theorem op_oNe {X : Cx} (hu : X.A.units + 65 < cLine) : OpR X (compareOp .NotEq) (oNe X.K) := OpR.or op_ne (op_neD (by omega))
theorem hu65 {k : Nat} {A : Around} (r : Room k A) : A.units + 65 < cLine := by have := r.un; omega
/-- x in a list or tuple of data -/
def rInT (K : PySem.W.Frag) (neg : Bool) : R2 := fun x y H Q => ∃ d ds, Dp K H x d ∧ (Dp K H y (.tuple ds) ∨ Dp K H y (.list ds)) ∧ SeqAt.shaped d = true ∧ SeqAt.shaped (.list ds) = true ∧ Q (.bl (if neg then !ds.any fun z => PyData.eqv z d else ds.any fun z => PyData.eqv z d)) H
theorem shaped_tl {ds : List PyData} : PyData.canLay0 (.tuple ds) = PyData.canLay0 (.list ds) := by simp [PyData.canLay0]
theorem op_inT {X : Cx} (hu : X.A.units + 65 < cLine) : OpR X (compareOp .In) (rInT X.K false) := by
  intro pins s σ H x y v u Q I rx ry h
  obtain ⟨d, ds, hd, he, sd, se, q⟩ := h
  obtain ⟨as, r1⟩ := Dp.reads I d x v hd rx
  rcases he with he | he
  · obtain ⟨bs, r2⟩ := Dp.reads I (.tuple ds) y u he ry
    exact SeqAt.in_tuple_reads r2 r1 (SeqAt.canLay_of_shaped se) (SeqAt.canLay_of_shaped sd) (room_in_shaped sd hu) ⟨.bl _, H, I, rfl, q⟩
  · obtain ⟨bs, r2⟩ := Dp.reads I (.list ds) y u he ry
    exact SeqAt.in_list_reads r2 r1 (SeqAt.canLay_of_shaped se) (SeqAt.canLay_of_shaped sd) (room_in_shaped sd hu) ⟨.bl _, H, I, rfl, q⟩
theorem op_notInT {X : Cx} (hu : X.A.units + 65 < cLine) : OpR X (compareOp .NotIn) (rInT X.K true) := by
  intro pins s σ H x y v u Q I rx ry h
  obtain ⟨d, ds, hd, he, sd, se, q⟩ := h
  obtain ⟨as, r1⟩ := Dp.reads I d x v hd rx
  rcases he with he | he
  · obtain ⟨bs, r2⟩ := Dp.reads I (.tuple ds) y u he ry
    exact SeqAt.notIn_tuple_reads r2 r1 (SeqAt.canLay_of_shaped se) (SeqAt.canLay_of_shaped sd) (room_in_shaped sd hu) ⟨.bl _, H, I, rfl, q⟩
  · obtain ⟨bs, r2⟩ := Dp.reads I (.list ds) y u he ry
    exact SeqAt.notIn_list_reads r2 r1 (SeqAt.canLay_of_shaped se) (SeqAt.canLay_of_shaped sd) (room_in_shaped sd hu) ⟨.bl _, H, I, rfl, q⟩
/-- in: one sign in a text, a flat thing in a list or tuple -/
def oIn (K : PySem.W.Frag) : R2 := fun x y H Q => match y with
  | .str z => ∃ c : Nat, x = .str ⟨#[c]⟩ ∧ Q (.bl (decide (c ∈ z.cps.toList))) H
  | .ref p => rIn K false x (.ref p) H Q ∨ rInT K false x (.ref p) H Q
  | _ => False
def oNotIn (K : PySem.W.Frag) : R2 := fun x y H Q => match y with
  | .str z => ∃ c : Nat, x = .str ⟨#[c]⟩ ∧ Q (.bl (!decide (c ∈ z.cps.toList))) H
  | .ref p => rIn K true x (.ref p) H Q ∨ rInT K true x (.ref p) H Q
  | _ => False
theorem op_oIn {X : Cx} (hu : X.A.units + 65 < cLine) : OpR X (compareOp .In) (oIn X.K) := by
  refine OpR.of (OpR.or op_in_sign (OpR.or op_in_seq (op_inT hu))) fun x y H Q h => ?_
  unfold oIn at h
  split at h
  · obtain ⟨c, rfl, q⟩ := h
    exact .inl ⟨c, _, rfl, rfl, q⟩
  · exact .inr h
  · exact h.elim
theorem op_oNotIn {X : Cx} (hu : X.A.units + 65 < cLine) : OpR X (compareOp .NotIn) (oNotIn X.K) := by
  refine OpR.of (OpR.or op_notIn_sign (OpR.or op_notIn_seq (op_notInT hu))) fun x y H Q h => ?_
  unfold oNotIn at h
  split at h
  · obtain ⟨c, rfl, q⟩ := h
    exact .inl ⟨c, _, rfl, rfl, q⟩
  · exact .inr h
  · exact h.elim
def oNeg : V → Hp → VK → Prop := fun x H Q => match x with
  | .int i => Q (.int (-i)) H
  | _ => False
theorem un_oNeg {X : Cx} : UnR X (unaryOp .USub) oNeg := by
  intro pins s σ H x u Q I rx h
  refine un_neg pins s σ H x u Q I rx ?_
  unfold oNeg at h
  split at h
  · exact ⟨_, rfl, h⟩
  · exact h.elim

/-! ### built-in functions -/
def cInt : List V → Hp → VK → Prop := fun xs H Q => match xs with
  | [.int i] => Q (.int i) H
  | [.bl k] => Q (.int (if k then 1 else 0)) H
  | _ => False
theorem call_cInt {X : Cx} : CallR X (.type "int") cInt := by
  intro pins s σ H xs us Q I r h
  refine call_int1 pins s σ H xs us Q I r ?_
  unfold cInt at h
  split at h
  · exact .inl ⟨_, rfl, h⟩
  · exact .inr ⟨_, rfl, h⟩
  · exact h.elim
def cAbs : List V → Hp → VK → Prop := fun xs H Q => match xs with
  | [.int i] => Q (.int (i.natAbs : Int)) H
  | _ => False
theorem call_cAbs {X : Cx} : CallR X (.builtin "abs") cAbs := by
  intro pins s σ H xs us Q I r h
  refine call_abs pins s σ H xs us Q I r ?_
  unfold cAbs at h
  split at h
  · rename_i i
    refine ⟨_, rfl, ?_⟩
    have e : (if i < 0 then -i else i) = (i.natAbs : Int) := by split <;> omega
    rw [e]
    exact h
  · exact h.elim
def cLen (K : PySem.W.Frag) : List V → Hp → VK → Prop := fun xs H Q => ∃ x n, xs = [x] ∧ LenV K x H n ∧ Q (.int n) H
theorem call_cLen {X : Cx} : CallR X (.builtin "len") (cLen X.K) := call_len
def cList (K : PySem.W.Frag) : List V → Hp → VK → Prop := fun xs H Q => ∃ p ys, xs = [.ref p] ∧ (SqL K H p ys ∨ SqT K H p ys) ∧ ∀ l, H l = none → Q (.ref l) (upd H l (.lst ys))
theorem call_cList {X : Cx} : CallR X (.type "list") (cList X.K) := call_list_of
def cTuple (K : PySem.W.Frag) : List V → Hp → VK → Prop := fun xs H Q => ∃ p ys, xs = [.ref p] ∧ SqL K H p ys ∧ ∀ l, H l = none → Q (.ref l) (upd H l (.tup ys))
/-- isinstance with one built-in class, by what the value is -/
def isTy (x : V) (H : Hp) (n : String) (b : Bool) : Prop := match x with
  | .non => b = false
  | .bl _ => b = (n == "bool" || n == "int")
  | .int _ => b = (n == "int")
  | .str _ => b = (n == "str")
  | .ref p => (∃ xs, H p = some (.tup xs)) ∧ b = (n == "tuple") ∨ (∃ xs, H p = some (.lst xs)) ∧ b = (n == "list")
  | _ => False
def tyNames : List String := ["bool", "int", "str", "tuple", "list"]
def cIsi (_K : PySem.W.Frag) : List V → Hp → VK → Prop := fun xs H Q => ∃ x n b, xs = [x, .ty n] ∧ n ∈ tyNames ∧ isTy x H n b ∧ Q (.bl b) H
theorem kit_names (K : PySem.W.Frag) : ∀ t ∈ (["NoneType", "bool", "int", "str", "tuple", "list"] : List String), ∀ n ∈ tyNames, PySem.W.kitOne K (.type t) (.type n) = some (t == n || (t == "bool" && n == "int")) := by
  intro t ht n hn
  simp only [tyNames, List.mem_cons, List.not_mem_nil, or_false] at ht hn
  rcases ht with rfl | rfl | rfl | rfl | rfl | rfl <;> rcases hn with rfl | rfl | rfl | rfl | rfl <;> exact kit_ty (by decide +kernel)

theorem call_cIsi {X : Cx} : CallR X (.builtin "isinstance") (cIsi X.K) := by
  intro pins s σ H xs us Q I r h
  refine call_isi pins s σ H xs us Q I r ?_
  obtain ⟨x, n, b, rfl, hn, ht, q⟩ := h
  have hk := fun t ht => kit_names X.K t ht n hn
  unfold isTy at ht
  split at ht
  · refine ⟨_, _, _, _, b, rfl, .ty n, .base .non, ?_, q⟩
    rw [hk "NoneType" (by decide), ht]
    simp only [tyNames, List.mem_cons, List.not_mem_nil, or_false] at hn
    rcases hn with rfl | rfl | rfl | rfl | rfl <;> rfl
  · refine ⟨_, _, _, _, b, rfl, .ty n, .base (.bl _), ?_, q⟩
    rw [hk "bool" (by decide), ht]
    simp only [tyNames, List.mem_cons, List.not_mem_nil, or_false] at hn
    rcases hn with rfl | rfl | rfl | rfl | rfl <;> rfl
  · refine ⟨_, _, _, _, b, rfl, .ty n, .base (.int _), ?_, q⟩
    rw [hk "int" (by decide), ht]
    simp only [tyNames, List.mem_cons, List.not_mem_nil, or_false] at hn
    rcases hn with rfl | rfl | rfl | rfl | rfl <;> rfl
  · refine ⟨_, _, _, _, b, rfl, .ty n, .base (.str _), ?_, q⟩
    rw [hk "str" (by decide), ht]
    simp only [tyNames, List.mem_cons, List.not_mem_nil, or_false] at hn
    rcases hn with rfl | rfl | rfl | rfl | rfl <;> rfl
  · rcases ht with ⟨⟨xs, e⟩, ht⟩ | ⟨⟨xs, e⟩, ht⟩
    · refine ⟨_, _, _, _, b, rfl, .ty n, .base (.tup e), ?_, q⟩
      rw [hk "tuple" (by decide), ht]
      simp only [tyNames, List.mem_cons, List.not_mem_nil, or_false] at hn
      rcases hn with rfl | rfl | rfl | rfl | rfl <;> rfl
    · refine ⟨_, _, _, _, b, rfl, .ty n, .base (.lst e), ?_, q⟩
      rw [hk "list" (by decide), ht]
      simp only [tyNames, List.mem_cons, List.not_mem_nil, or_false] at hn
      rcases hn with rfl | rfl | rfl | rfl | rfl <;> rfl
  · exact ht.elim

/-! ### slices, items, what a for walks: by what they meet -/
def oSl (K : PySem.W.Frag) : V → Option Int → Option Int → Hp → VK → Prop := fun x lo hi H Q => match x with
  | .str z => z.length ≤ sizeLine ∧ Q (.str (cutS z lo hi)) H
  | .ref p => rSlL K (.ref p) lo hi H Q ∨ rSlT K (.ref p) lo hi H Q
  | _ => False
theorem sl_oSl {X : Cx} : SlR X (oSl X.K) := by
  intro pins s σ H x v vl vu lo hi sl Q I rx hs pl pu h
  unfold oSl at h
  split at h
  · exact sl_str pins s σ H _ v vl vu lo hi sl Q I rx hs pl pu ⟨_, rfl, h.1, h.2⟩
  · rcases h with h | h
    · exact sl_list pins s σ H _ v vl vu lo hi sl Q I rx hs pl pu h
    · exact sl_tup pins s σ H _ v vl vu lo hi sl Q I rx hs pl pu h
  · exact h.elim
def oIx (K : PySem.W.Frag) : R2 := fun x y H Q => match x, y with
  | .str z, .int i => ∃ c : Nat, z.length ≤ sizeLine ∧ atI z.cps.toList i = some c ∧ Q (.str ⟨#[c]⟩) H
  | .ref p, .int i => ∃ xs v, (SqL K H p xs ∨ SqT K H p xs) ∧ atI xs i = some v ∧ Q v H
  | _, _ => False
theorem ix_oIx {X : Cx} : IxR X (oIx X.K) := by
  have key : ∀ x y H Q, oIx X.K x y H Q → rIx X.K x y H Q := by
    intro x y H Q h
    unfold oIx at h
    split at h
    · obtain ⟨c, hz, e, q⟩ := h
      exact .inr (.inr ⟨_, _, c, rfl, rfl, hz, e, q⟩)
    · obtain ⟨xs, v, hs, e, q⟩ := h
      rcases hs with hs | hs
      · exact .inl ⟨_, xs, _, v, rfl, rfl, hs, e, q⟩
      · exact .inr (.inl ⟨_, xs, _, v, rfl, rfl, hs, e, q⟩)
    · exact h.elim
  have base := ix_seq (X := X)
  unfold IxR at base ⊢
  intros
  apply base <;> first | assumption | (apply key; assumption)
def iAny (K : PySem.W.Frag) (tl : TE) : TI := fun σ H R => iList K tl σ H R ∨ iTup K tl σ H R ∨ iStr tl σ H R
theorem pi_any {X : Cx} {tg l : Expr} {tl : TE} (hl : PE X l tl) : PI X tg l (iAny X.K tl) := ⟨fun pins s σ H R I h => by
  rcases h with h | h | h
  · exact (pi_list hl).run pins s σ H R I h
  · exact (pi_tup hl).run pins s σ H R I h
  · exact (pi_str hl).run pins s σ H R I h⟩
theorem PE.or {X : Cx} {e : Expr} {t u : TE} (a : PE X e t) (b : PE X e u) : PE X e (fun σ H Q => t σ H Q ∨ u σ H Q) := ⟨fun pins s σ H Q I h => by
  rcases h with h | h
  · exact a.run pins s σ H Q I h
  · exact b.run pins s σ H Q I h⟩
/-- a comparison in the middle: a < b < c -/
theorem PT.or {X : Cx} {e : Expr} {t u : TT} (a : PT X e t) (b : PT X e u) : PT X e (fun σ H Q => t σ H Q ∨ u σ H Q) := ⟨fun pins s σ H Q I h => by
  rcases h with h | h
  · exact a.run pins s σ H Q I h
  · exact b.run pins s σ H Q I h⟩

theorem bi_int : bootBuiltins "int" = some (.type "int") := by decide +kernel
theorem bi_list : bootBuiltins "list" = some (.type "list") := by decide +kernel
theorem bi_tuple : bootBuiltins "tuple" = some (.type "tuple") := by decide +kernel
theorem bi_bool : bootBuiltins "bool" = some (.type "bool") := by decide +kernel
theorem bi_str : bootBuiltins "str" = some (.type "str") := by decide +kernel
theorem bi_dict : bootBuiltins "dict" = some (.type "dict") := by decide +kernel
theorem bi_len : bootBuiltins "len" = some (.builtin "len") := by decide +kernel
theorem bi_abs : bootBuiltins "abs" = some (.builtin "abs") := by decide +kernel
theorem bi_isinstance : bootBuiltins "isinstance" = some (.builtin "isinstance") := by decide +kernel
theorem bi_ValueError : bootBuiltins "ValueError" = some (.type "ValueError") := by decide +kernel
end Ov

set_option Elab.async false
set_option linter.all false
set_option maxRecDepth 100000
namespace Ov
open PySem PySem.Spec PyProof.Rows L2
/-! ### readings, step by step -/
section
variable {σ σ' : L2.St} {H H' : Hp} {t u : TS} {D : Ends} {te ta tb : TE} {tt tu : TT} {g : TG} {Q : VK} {QB : Bool → Hp → Prop} {i : Nat} {v : V} {r : R2} {QA : List V → Hp → Prop} {al ar : TA}
theorem q_seq (h : t { D with nx := u D } σ H) : tSeq t u D σ H := h
theorem q_asg (h : te σ H fun x H1 => g x σ H1 D.nx) : tAsg te g D σ H := h
theorem q_name {QS : L2.St → Hp → Prop} (h : QS (σ.set i (some v)) H) : gName i v σ H QS := h
theorem q_drop (h : te σ H fun _ H1 => D.nx σ H1) : tDrop te D σ H := h
theorem q_ret (h : te σ H D.rt) : tRet te D σ H := h
theorem q_retN (h : D.rt .non H) : tRetN D σ H := h
theorem q_next (h : D.nx σ H) : tNext D σ H := h
theorem q_break (h : D.bk σ H) : tBreak D σ H := h
theorem q_cont (h : D.ct σ H) : tCont D σ H := h
theorem q_ifS (h : tt σ H fun b H1 => if b = true then t D σ H1 else u D σ H1) : tIfS tt t u D σ H := h
theorem q_ifE (h : tt σ H fun c H1 => if c = true then ta σ H1 Q else tb σ H1 Q) : tIf tt ta tb σ H Q := h
theorem q_var (e : σ[i]? = some (some v)) (h : Q v H) : tVar i σ H Q := ⟨v, e, h⟩
theorem q_c (h : Q v H) : tC v σ H Q := h
theorem q_op (h : ta σ H fun x H1 => tb σ H1 fun y H2 => r x y H2 Q) : tOp r ta tb σ H Q := h
theorem q_un {r : V → Hp → VK → Prop} (h : ta σ H fun x H1 => r x H1 Q) : tUn r ta σ H Q := h
theorem q_test (h : te σ H fun x H' => ∃ k, x = .bl k ∧ QB k H') : tTest te σ H QB := h
theorem q_tB (h : te σ H fun x H' => ∃ k, x = .bl k ∧ QB k H') : tB te σ H QB := h
theorem q_bl {b : Bool} {R : Bool → Prop} (h : R b) : ∃ k, V.bl b = V.bl k ∧ R k := ⟨b, rfl, h⟩
theorem q_and (h : tt σ H fun c H1 => if c = true then tu σ H1 QB else QB false H1) : tAnd tt tu σ H QB := h
theorem q_or (h : tt σ H fun c H1 => if c = true then QB true H1 else tu σ H1 QB) : tOr tt tu σ H QB := h
theorem q_not (h : tt σ H fun c H1 => QB (!c) H1) : tNot tt σ H QB := h
theorem q_andV (h : ta σ H fun x H1 => ∃ c, x = .bl c ∧ if c = true then tb σ H1 Q else Q (.bl false) H1) : tAndV ta tb σ H Q := h
theorem q_orV (h : ta σ H fun x H1 => ∃ c, x = .bl c ∧ if c = true then Q (.bl true) H1 else tb σ H1 Q) : tOrV ta tb σ H Q := h
theorem q_notV (h : ta σ H fun x H1 => ∃ c, x = .bl c ∧ Q (.bl (!c)) H1) : tNotV ta σ H Q := h
theorem q_cons (h : te σ H fun x H1 => ar σ H1 fun xs H2 => QA (x :: xs) H2) : tCons te ar σ H QA := h
theorem q_nil (h : QA [] H) : tNil σ H QA := h
theorem q_call {sp : Sp} {dvs : List V} {E : XK} (h : al σ H fun vs H1 => sp (vs ++ dvs) H1 Q E) : tCall sp dvs E al σ H Q := h
theorem q_cb {r : List V → Hp → VK → Prop} (h : al σ H fun vs H1 => r vs H1 Q) : tCB r al σ H Q := h
theorem q_tup (h : al σ H fun xs H1 => xs.length ≤ sizeLine ∧ ∀ p, H1 p = none → Q (.ref p) (upd H1 p (.tup xs))) : tTup al σ H Q := h
theorem q_lst (h : al σ H fun xs H1 => xs.length ≤ sizeLine ∧ ∀ p, H1 p = none → Q (.ref p) (upd H1 p (.lst xs))) : tLst al σ H Q := h
theorem q_sl {r : V → Option Int → Option Int → Hp → VK → Prop} {tl th : TO} (h : te σ H fun x H1 => tl σ H1 fun l H2 => th σ H2 fun u H3 => r x l u H3 Q) : tSl r te tl th σ H Q := h
theorem q_noPart {QO : Option Int → Hp → Prop} (h : QO none H) : tNoPart σ H QO := h
theorem q_part {QO : Option Int → Hp → Prop} (h : te σ H fun x H1 => ∃ i, x = .int i ∧ QO (some i) H1) : tPart te σ H QO := h
theorem q_int {j : Int} {R : Int → Prop} (h : R j) : ∃ i, V.int j = V.int i ∧ R i := ⟨j, rfl, h⟩
theorem q_gsub {to ti : TE} {ts : TSet} {QS : L2.St → Hp → Prop} (h : to σ H fun o H1 => ti σ H1 fun i H2 => ts o i v H2 fun H3 => QS σ H3) : gSub to ti ts v σ H QS := h
theorem q_bm {K : PySem.W.Frag} {T : String} {r : V → List V → Hp → VK → Prop} (h : te σ H fun x H1 => tyV K T x H1 ∧ al σ H1 fun xs H2 => r x xs H2 Q) : tBM K T r te al σ H Q := h
theorem q_bm0 {K : PySem.W.Frag} {T : String} {r : V → List V → Hp → VK → Prop} (h : te σ H fun x H1 => tyV K T x H1 ∧ r x [] H1 Q) : tBM0 K T r te σ H Q := h
theorem q_for {wi : TI} {tb : TS} (h : wi σ H fun J H1 => ∃ W : Nat → Nat → L2.St → Hp → Prop, (∃ m, W 0 m σ H1) ∧ ∀ i m σ H, W i m σ H →
  (J.stop i H ∧ D.nx σ H) ∨ (J.go i H ∧ ∃ N : L2.St → Hp → Prop, (∀ σ' H', N σ' H' → ∃ m', m' < m ∧ W (i + 1) m' σ' H') ∧ ∀ x H', J.yld i H x H' → g x σ H' fun σ2 H2 => tb { D with nx := N, ct := N, bk := D.nx } σ2 H2)) : tFor wi g tb D σ H := h
/-! operators at values that are known -/
theorem q_addI {K : PySem.W.Frag} {i j : Int} (h : Q (.int (i + j)) H) : oAdd K (.int i) (.int j) H Q := h
theorem q_subI {i j : Int} (h : Q (.int (i - j)) H) : oSub (.int i) (.int j) H Q := h
theorem q_ltI {i j : Int} (h : Q (.bl (decide (i < j))) H) : oLt (.int i) (.int j) H Q := h
theorem q_leI {i j : Int} (h : Q (.bl (decide (i ≤ j))) H) : oLe (.int i) (.int j) H Q := h
theorem q_gtI {i j : Int} (h : Q (.bl (decide (j < i))) H) : oGt (.int i) (.int j) H Q := h
theorem q_geI {i j : Int} (h : Q (.bl (decide (j ≤ i))) H) : oGe (.int i) (.int j) H Q := h
theorem q_negI {i : Int} (h : Q (.int (-i)) H) : oNeg (.int i) H Q := h
theorem q_cIntI {i : Int} (h : Q (.int i) H) : cInt [.int i] H Q := h
theorem q_cIntB {k : Bool} (h : Q (.int (if k then 1 else 0)) H) : cInt [.bl k] H Q := h
theorem q_cAbs {i : Int} (h : Q (.int (i.natAbs : Int)) H) : cAbs [.int i] H Q := h
theorem q_modI {i j : Int} (hj : 0 < j) (h : Q (.int (i % j)) H) : oMod (.int i) (.int j) H Q := ⟨hj, h⟩
theorem q_eqS {K : PySem.W.Frag} {x y : V} (hs : scal x y = true) (h : Q (.bl (decide (x = y))) H) : oEq K x y H Q := .inl ⟨hs, h⟩
theorem q_neS {K : PySem.W.Frag} {x y : V} (hs : scal x y = true) (h : Q (.bl (!decide (x = y))) H) : oNe K x y H Q := .inl ⟨hs, h⟩
theorem q_eqD {K : PySem.W.Frag} {x y : V} {d e : PyData} (hx : Dp K H x d) (hy : Dp K H y e) (sx : SeqAt.shaped d = true) (sy : SeqAt.shaped e = true) (h : Q (.bl (PyData.eqv d e)) H) : oEq K x y H Q := .inr ⟨d, e, hx, hy, sx, sy, h⟩
theorem q_inD {K : PySem.W.Frag} {x : V} {p : Addr} {d : PyData} {ds : List PyData} (hx : Dp K H x d) (hy : Dp K H (.ref p) (.tuple ds) ∨ Dp K H (.ref p) (.list ds)) (sx : SeqAt.shaped d = true) (sy : SeqAt.shaped (.list ds) = true) (h : Q (.bl (ds.any fun z => PyData.eqv z d)) H) : oIn K x (.ref p) H Q := .inr ⟨d, ds, hx, hy, sx, sy, h⟩
theorem q_isN (h : Q (.bl (decide (v = .non))) H) : oIsN v .non H Q := ⟨rfl, h⟩
theorem q_notN (h : Q (.bl (!decide (v = .non))) H) : oNotN v .non H Q := ⟨rfl, h⟩
theorem q_ixS {K : PySem.W.Frag} {z : Str} {i : Int} {c : Nat} (hz : z.length ≤ sizeLine) (e : atI z.cps.toList i = some c) (h : Q (.str ⟨#[c]⟩) H) : oIx K (.str z) (.int i) H Q := ⟨c, hz, e, h⟩
theorem q_ixL {K : PySem.W.Frag} {p : Addr} {xs : List V} {i : Int} (hp : H p = some (.lst xs)) (e : atI xs i = some v) (h : Q v H) : oIx K (.ref p) (.int i) H Q := ⟨xs, v, .inl (SqL.of hp), e, h⟩
theorem q_ixT {K : PySem.W.Frag} {p : Addr} {xs : List V} {i : Int} (hp : H p = some (.tup xs)) (e : atI xs i = some v) (h : Q v H) : oIx K (.ref p) (.int i) H Q := ⟨xs, v, .inr (SqT.of hp), e, h⟩
theorem q_setL {p : Addr} {xs : List V} {k : Int} {j : Nat} {QH : Hp → Prop} (hp : H p = some (.lst xs)) (e : ixN xs.length k = some j) (h : QH (upd H p (.lst (xs.set j v)))) : rSetL (.ref p) (.int k) v H QH := ⟨p, xs, k, j, rfl, rfl, hp, e, h⟩
theorem q_lenL {K : PySem.W.Frag} {p : Addr} {xs : List V} (hp : H p = some (.lst xs)) (h : Q (.int xs.length) H) : cLen K [.ref p] H Q := ⟨_, xs.length, rfl, .inl ⟨xs, SqL.of hp, rfl⟩, h⟩
theorem q_lenT {K : PySem.W.Frag} {p : Addr} {xs : List V} (hp : H p = some (.tup xs)) (h : Q (.int xs.length) H) : cLen K [.ref p] H Q := ⟨_, xs.length, rfl, .inr ⟨xs, SqT.of hp, rfl⟩, h⟩
theorem q_lenS {K : PySem.W.Frag} {z : Str} (hz : z.length ≤ sizeLine) (h : Q (.int z.length) H) : cLen K [.str z] H Q := ⟨_, z.length, rfl, ⟨hz, rfl⟩, h⟩
theorem q_addS {K : PySem.W.Frag} {a b : Str} (hl : a.length + b.length ≤ sizeLine) (h : Q (.str (a ++ b)) H) : oAdd K (.str a) (.str b) H Q := ⟨hl, h⟩
theorem q_addL {K : PySem.W.Frag} {p q : Addr} {xs ys : List V} (hp : H p = some (.lst xs)) (hq : H q = some (.lst ys)) (hl : xs.length + ys.length ≤ sizeLine) (h : ∀ r, H r = none → Q (.ref r) (upd H r (.lst (xs ++ ys)))) : oAdd K (.ref p) (.ref q) H Q := .inl ⟨p, q, xs, ys, rfl, rfl, hp, hq, hl, h⟩
theorem q_mulI {i j : Int} (hc : CMulW i j) (h : Q (.int (i * j)) H) : oMul (.int i) (.int j) H Q := ⟨hc, h⟩
theorem q_divI {i j : Int} (hc : CDivW i j) (h : Q (.int (i / j)) H) : oDiv (.int i) (.int j) H Q := ⟨hc, h⟩
theorem q_powI {i j : Int} (hc : CPow i j) (h : Q (.int (i ^ j.toNat)) H) : oPow (.int i) (.int j) H Q := ⟨hc, h⟩
theorem q_slS {K : PySem.W.Frag} {z : Str} {lo hi : Option Int} (hz : z.length ≤ sizeLine) (h : Q (.str (cutS z lo hi)) H) : oSl K (.str z) lo hi H Q := ⟨hz, h⟩
theorem q_isi {K : PySem.W.Frag} {x : V} {n : String} (b : Bool) (hn : n ∈ tyNames) (ht : isTy x H n b) (h : Q (.bl b) H) : cIsi K [x, .ty n] H Q := ⟨x, n, b, rfl, hn, ht, h⟩
theorem q_inS {K : PySem.W.Frag} {c : Nat} {z : Str} (h : Q (.bl (decide (c ∈ z.cps.toList))) H) : oIn K (.str ⟨#[c]⟩) (.str z) H Q := ⟨c, rfl, h⟩
theorem q_notInS {K : PySem.W.Frag} {c : Nat} {z : Str} (h : Q (.bl (!decide (c ∈ z.cps.toList))) H) : oNotIn K (.str ⟨#[c]⟩) (.str z) H Q := ⟨c, rfl, h⟩
theorem q_append {p : Addr} {xs : List V} (hp : H p = some (.lst xs)) (hl : xs.length < sizeLine) (h : Q .non (upd H p (.lst (xs ++ [v])))) : rAppend (.ref p) [v] H Q := ⟨p, xs, v, rfl, rfl, hp, hl, h⟩
end
theorem q_dec {p A B : Prop} [Decidable p] (h1 : p → A) (h2 : ¬ p → B) : if decide p = true then A else B := by
  by_cases h : p
  · rw [if_pos (decide_eq_true h)]
    exact h1 h
  · rw [if_neg (by rw [decide_eq_false h]; exact Bool.false_ne_true)]
    exact h2 h
theorem q_decT {p A B : Prop} [Decidable p] (h : p) (h1 : A) : if decide p = true then A else B := by
  rw [if_pos (decide_eq_true h)]
  exact h1
theorem q_decF {p A B : Prop} [Decidable p] (h : ¬ p) (h1 : B) : if decide p = true then A else B := by
  rw [if_neg (by rw [decide_eq_false h]; exact Bool.false_ne_true)]
  exact h1
theorem q_ndec {p A B : Prop} [Decidable p] (h1 : ¬ p → A) (h2 : p → B) : if (!decide p) = true then A else B := by
  by_cases h : p
  · rw [if_neg (by rw [decide_eq_true h]; decide)]
    exact h2 h
  · rw [if_pos (by rw [decide_eq_false h]; decide)]
    exact h1 h
theorem q_T {A B : Prop} (h : A) : if true = true then A else B := by
  rw [if_pos rfl]
  exact h
theorem q_F {A B : Prop} (h : B) : if false = true then A else B := by
  rw [if_neg Bool.false_ne_true]
  exact h
theorem q_b {A B : Prop} {b : Bool} (h1 : b = true → A) (h2 : b = false → B) : if b = true then A else B := by
  cases b with
  | true => exact q_T (h1 rfl)
  | false => exact q_F (h2 rfl)

/-! ### pure tests and values, as a whole -/
def Val (te : TE) (σ : L2.St) (H : Hp) (v : V) : Prop := ∀ Q : VK, Q v H → te σ H Q
def Ans (t : TT) (σ : L2.St) (H : Hp) (b : Bool) : Prop := ∀ Q : Bool → Hp → Prop, Q b H → t σ H Q
section
variable {σ : L2.St} {H : Hp} {t u : TS} {D : Ends} {te ta tb : TE} {tt tu : TT} {i : Nat} {v x y z : V} {r : R2} {b b1 b2 : Bool} {Q : VK} {K : PySem.W.Frag} {p : Addr} {xs : List V} {k : Int}
theorem q_ifA (h : Ans tt σ H b) (h1 : b = true → t D σ H) (h2 : b = false → u D σ H) : tIfS tt t u D σ H := by
  refine h _ ?_
  cases b with
  | true => exact q_T (h1 rfl)
  | false => exact q_F (h2 rfl)
theorem q_val (h : Val te σ H v) (q : Q v H) : te σ H Q := h Q q
theorem an_test (h : Val te σ H (.bl b)) : Ans (tTest te) σ H b := fun Q q => h _ ⟨b, rfl, q⟩
theorem an_tB (h : Val te σ H (.bl b)) : Ans (tB te) σ H b := fun Q q => h _ ⟨b, rfl, q⟩
theorem an_and (h1 : Ans tt σ H b1) (h2 : b1 = true → Ans tu σ H b2) : Ans (tAnd tt tu) σ H (b1 && b2) := by
  intro Q q
  refine h1 _ ?_
  cases b1 with
  | true => exact q_T (h2 rfl Q q)
  | false => exact q_F q
theorem an_or (h1 : Ans tt σ H b1) (h2 : b1 = false → Ans tu σ H b2) : Ans (tOr tt tu) σ H (b1 || b2) := by
  intro Q q
  refine h1 _ ?_
  cases b1 with
  | true => exact q_T q
  | false => exact q_F (h2 rfl Q q)
theorem an_not (h : Ans tt σ H b) : Ans (tNot tt) σ H (!b) := fun Q q => h _ q
theorem Ans.to (h : Ans tt σ H b) (e : b = b1) : Ans tt σ H b1 := e ▸ h
theorem va_var (e : σ[i]? = some (some v)) : Val (tVar i) σ H v := fun _ q => ⟨v, e, q⟩
theorem va_c : Val (tC v) σ H v := fun _ q => q
theorem va_op (ha : Val ta σ H x) (hb : Val tb σ H y) (hr : ∀ Q : VK, Q z H → r x y H Q) : Val (tOp r ta tb) σ H z := fun Q q => ha _ (hb _ (hr Q q))
theorem va_eqS (ha : Val ta σ H x) (hb : Val tb σ H y) (hs : scal x y = true) : Val (tOp (oEq K) ta tb) σ H (.bl (decide (x = y))) := va_op ha hb fun _ q => q_eqS hs q
theorem va_neS (ha : Val ta σ H x) (hb : Val tb σ H y) (hs : scal x y = true) : Val (tOp (oNe K) ta tb) σ H (.bl (!decide (x = y))) := va_op ha hb fun _ q => q_neS hs q
theorem va_ixT (ha : Val ta σ H (.ref p)) (hb : Val tb σ H (.int k)) (hp : H p = some (.tup xs)) (e : atI xs k = some v) : Val (tOp (oIx K) ta tb) σ H v := va_op ha hb fun _ q => q_ixT hp e q
theorem va_ixL (ha : Val ta σ H (.ref p)) (hb : Val tb σ H (.int k)) (hp : H p = some (.lst xs)) (e : atI xs k = some v) : Val (tOp (oIx K) ta tb) σ H v := va_op ha hb fun _ q => q_ixL hp e q
theorem va_cmp {f : Int → Int → Bool} {j : Int} (ha : Val ta σ H (.int k)) (hb : Val tb σ H (.int j)) : Val (tOp (oCmp f) ta tb) σ H (.bl (f k j)) := va_op ha hb fun _ q => q
theorem va_add {j : Int} (ha : Val ta σ H (.int k)) (hb : Val tb σ H (.int j)) : Val (tOp (oAdd K) ta tb) σ H (.int (k + j)) := va_op ha hb fun _ q => q
theorem va_lenS {s : Str} {ar : TA} (ha : Val ta σ H (.str s)) (hl : s.length ≤ sizeLine) : Val (tCB (cLen K) (tCons ta tNil)) σ H (.int s.length) := fun Q q => ha _ (q_lenS hl q)
theorem va_lenL {ar : TA} (ha : Val ta σ H (.ref p)) (hp : H p = some (.lst xs)) : Val (tCB (cLen K) (tCons ta tNil)) σ H (.int xs.length) := fun Q q => ha _ (q_lenL hp q)
theorem va_lenT {ar : TA} (ha : Val ta σ H (.ref p)) (hp : H p = some (.tup xs)) : Val (tCB (cLen K) (tCons ta tNil)) σ H (.int xs.length) := fun Q q => ha _ (q_lenT hp q)
theorem va_isN (ha : Val ta σ H x) : Val (tOp oIsN ta (tC .non)) σ H (.bl (decide (x = .non))) := va_op ha va_c fun _ q => q_isN q
theorem va_notN (ha : Val ta σ H x) : Val (tOp oNotN ta (tC .non)) σ H (.bl (!decide (x = .non))) := va_op ha va_c fun _ q => q_notN q
theorem va_isi {n : String} (b : Bool) (ha : Val ta σ H x) (hn : n ∈ tyNames) (ht : isTy x H n b) : Val (tCB (cIsi K) (tCons ta (tCons (tC (.ty n)) tNil))) σ H (.bl b) := fun Q q => ha _ (q_isi (K := K) b hn ht q)
theorem va_andV (ha : Val ta σ H (.bl b1)) (hb : b1 = true → Val tb σ H (.bl b2)) : Val (tAndV ta tb) σ H (.bl (b1 && b2)) := by
  intro Q q
  refine ha _ ⟨b1, rfl, ?_⟩
  cases b1 with
  | true => exact q_T (hb rfl Q q)
  | false => exact q_F q
end

/-! ### loops -/
section
variable {K : PySem.W.Frag} {σ : L2.St} {H : Hp} {D : Ends} {g : TG} {tb : TS} {te : TE} {i : Nat} {a : Addr} {xs : List V}
/-- over a list that the body leaves as it is -/
theorem q_forL (e : σ[i]? = some (some (.ref a))) (Pv : Nat → L2.St → Hp → Prop) (h0 : Pv 0 σ H) (hl : ∀ i σ H, i ≤ xs.length → Pv i σ H → SqL K H a xs)
    (hs : ∀ i x σ H, xs[i]? = some x → Pv i σ H → g x σ H fun σ2 H2 => tb { D with nx := Pv (i + 1), ct := Pv (i + 1), bk := D.nx } σ2 H2) (hd : ∀ σ H, Pv xs.length σ H → D.nx σ H) : tFor (iAny K (tVar i)) g tb D σ H :=
  Or.inl ⟨_, e, a, rfl, ⟨_, hl 0 σ H (Nat.zero_le _) h0⟩, for_list (K := K) (a := a) (xs := xs) Pv h0 hl hs hd⟩
/-- over a list that is written or made there -/
theorem q_forN {al : TA} (h : al σ H fun vs H1 => vs.length ≤ sizeLine ∧ ∀ p, H1 p = none → ∃ Pv : Nat → L2.St → Hp → Prop, Pv 0 σ (upd H1 p (.lst vs)) ∧ (∀ i σ H, i ≤ vs.length → Pv i σ H → SqL K H p vs) ∧
    (∀ i x σ H, vs[i]? = some x → Pv i σ H → g x σ H fun σ2 H2 => tb { D with nx := Pv (i + 1), ct := Pv (i + 1), bk := D.nx } σ2 H2) ∧ (∀ σ H, Pv vs.length σ H → D.nx σ H))
    (mono : ∀ Q Q' : List V → Hp → Prop, (∀ vs H, Q vs H → Q' vs H) → al σ H Q → al σ H Q') : tFor (iAny K (tLst al)) g tb D σ H := by
  refine Or.inl ?_
  show tLst al σ H _
  refine mono _ _ (fun vs H1 q => ?_) h
  obtain ⟨hl, q⟩ := q
  refine ⟨hl, fun p hp => ?_⟩
  obtain ⟨Pv, h0, h1, h2, h3⟩ := q p hp
  exact ⟨p, rfl, ⟨_, h1 0 _ _ (Nat.zero_le _) h0⟩, for_list (K := K) (a := p) (xs := vs) Pv h0 h1 h2 h3⟩
/-- over range(n) -/
theorem q_forR {n : Int} (hv : Val te σ H (.int n)) (h1 : -(2 ^ 62) ≤ n) (h2 : n < 2 ^ 62) (Pv : Nat → L2.St → Hp → Prop) (h0 : Pv 0 σ H)
    (hs : ∀ i σ H, i < n.toNat → Pv i σ H → g (.int (0 + i)) σ H fun σ2 H2 => tb { D with nx := Pv (i + 1), ct := Pv (i + 1), bk := D.nx } σ2 H2) (hd : ∀ σ H, Pv n.toNat σ H → D.nx σ H) : tFor (iRng1 (tCons te tNil)) g tb D σ H :=
  hv _ ⟨n, rfl, h1, h2, for_range Pv h0 hs hd⟩
/-- over a text -/
theorem q_forS {z : Str} (e : σ[i]? = some (some (.str z))) (Pv : Nat → L2.St → Hp → Prop) (h0 : Pv 0 σ H)
    (hs : ∀ i c σ H, z.cps.toList[i]? = some c → Pv i σ H → g (.str ⟨#[c]⟩) σ H fun σ2 H2 => tb { D with nx := Pv (i + 1), ct := Pv (i + 1), bk := D.nx } σ2 H2) (hd : ∀ σ H, Pv z.length σ H → D.nx σ H) : tFor (iAny K (tVar i)) g tb D σ H := by
  refine Or.inr (Or.inr ⟨_, e, z, rfl, ?_⟩)
  refine ⟨fun i m σ H => m = z.length - i ∧ i ≤ z.length ∧ Pv i σ H, ⟨z.length, by simp, Nat.zero_le _, h0⟩, ?_⟩
  rintro i m σ H ⟨rfl, hi, p⟩
  by_cases hlt : i < z.length
  · refine .inr ⟨hlt, Pv (i + 1), fun σ' H' p' => ⟨z.length - (i + 1), by omega, rfl, hlt, p'⟩, fun x H' y => ?_⟩
    obtain ⟨e, c, hc, rfl⟩ := y
    subst e
    exact hs i c σ _ (by rw [Array.getElem?_toList]; exact hc) p
  · have e : i = z.length := by omega
    subst e
    exact .inl ⟨Nat.le_refl _, hd σ H p⟩
end
end Ov

set_option Elab.async false
set_option linter.all false
set_option maxRecDepth 100000
set_option maxHeartbeats 2000000
/-! own errors over ValueError whose __init__ says super().__init__(a text) and keeps one field -/
namespace PySem
namespace ExS
open PySem.W PySem.Calls PyProof.Rows PySem.HandSPX PySem.Spec
/-- what the written part says of the class called cn, at C, and of its __init__, at fI; its one field is fn -/
structure ETxt (P : Program) (K : Frag) (mg : Str → Option Value) (cn fn : Str) (C fI : Addr) : Prop where
  gC : mg cn = some (.ref C)
  cls : ∃ nm q N bs bm sn sub ab col dd k0 k1 k2 k3 k5, K.lookup C = some (excClassObj nm q C N bs bm true sn sub ab col dd k0 k1 k2 k3 k5 "ValueError.__new__") ∧ refsVE bm = true
  alo : ks_superIn K C C "__init__" = some (some (.builtin "ValueError.__init__"))
  sa : findIn K (.ref C) "__setattr__" = some (some (.builtin "object.__setattr__"))
  noN : findIn K (.ref C) fn = some none
  iC : findIn K (.ref C) "__init__" = some (some (.ref fI))
  tC : typeIn K (.ref fI) = some (.type "function")
  kC : keepIn K (.ref C) = true
  exC : subIn K (.ref C) (.type "BaseException") = some true
  veC : subIn K (.ref C) (.type "ValueError") = some true
  slf : mroIn K C (.ref C) = some true
  tyC : typeIn K (.ref C) = some (.type "type")
  opq : nsIn K cStatics "thirdparty.any" = some none
  sup : mg "super" = none
  top : (P.main.scope.names.lookup ("super" : Str)).isSome = false
  fun_ : ∃ (oc : Value) (od : Option Addr) (params : Arguments) (body : List Stmt) (scope : Scope) (qual : Str) (doc pm : Value) (an : Option Addr) (cda cc : Addr) (ct : Value) (osl : Array (Option Value)) (p1 p2 a1 a2 a3 a4 a5 a6 b1 b2 b3 b4 : Pos) (j : Nat) (txt : Str)
      (ccl cl : Value) (cdd cld : Option Addr) (vs : Array Value) (ccs csl : Array (Option Value)) (file : Str) (tf : Tok),
    K.lookup fI = some ⟨oc, od, .func (ksFn "__init__" qual params body scope .none .none doc pm an (.ref cda) ct cc), osl⟩ ∧ codeIn K (.ref cda) qual = true ∧
    params = { posonlyargs := [], args := [{ arg := "self", annotation := none, pos := p1 }, { arg := fn, annotation := none, pos := p2 }], vararg := none, kwonlyargs := [], kw_defaults := [], kwarg := none, defaults := [] } ∧
    body = [.Expr (.Call (.Attribute (.Call (.Name "super" a1) [] [] a2) "__init__" a3) [.Constant (.str txt) j a4] [] a5) a6, .Assign [.Attribute (.Name "self" b1) fn b2] (.Name fn b3) b4] ∧
    scope = { kind := .function, names := [("self", .local), (fn, .local), ("__class__", .free), ("super", .globalImplicit)], isGenerator := false, isCoroutine := false, more := [] } ∧
    (∀ (x : Addr) (v : Value), bindArgs (ksFn "__init__" qual params body scope .none .none doc pm an (.ref cda) ct cc) ⟨[.ref x, v], []⟩ = pure [(("self" : Str), Value.ref x), (fn, v)]) ∧
    (∃ pl : Sem Bool, ∀ env : Env, eval (.Call (.Attribute (.Call (.Name "super" a1) [] [] a2) "__init__" a3) [.Constant (.str txt) j a4] [] a5) env = (do
      let ov ← attributeBase (.Call (.Name "super" a1) [] [] a2) "__init__" env (eval (.Call (.Name "super" a1) [] [] a2) env)
      standAt a3.atName
      let (f, first) ← holding [ov] (getMethod ov "__init__" pl)
      callWith a5 f first (backTo a5 (starEach [.Constant (.str txt) j a4] env)) [])) ∧
    (∀ env : Env, swapsWith (.Call (.Attribute (.Call (.Name "super" a1) [] [] a2) "__init__" a3) [.Constant (.str txt) j a4] [] a5) none a6.line env = pure false) ∧
    (∀ env : Env, swapsWith (.Name fn b3) (some (.Attribute (.Name "self" b1) fn b2)) b4.line env = pure false) ∧
    K.lookup cda = some ⟨ccl, cdd, .fields vs, ccs⟩ ∧ vs[2]? = some (.str file tf) ∧ ((P.main.file : Str) == file) = true ∧ K.lookup cc = some ⟨cl, cld, .cell (some (.ref C)), csl⟩
/-- what __init__ leaves of a fresh exception at x -/
structure IEnd (fn : Str) (h h' : Heap) (x C dx t1 : Addr) (v : Value) : Prop where
  keep : ∀ b o, b ≠ x → h.get? b = some o → h'.get? b = some o
  obj : h'.get? x = some { cls := .ref C, dict := some dx, data := .fields #[.ref t1, .none, .none, .none, .bool false, .none] }
  dbig : h.objs.size ≤ dx
  dne : dx ≠ x
  ns : h'.Ns1 dx (fun y => if y = fn then some v else none)
theorem ldK {M : Model} {s : Shared} {env : Env} {L : Addr} {m : Str → Option Value} {x : Str} {pos : Pos} {v : Value} {Q : Value → Shared → Prop} {A : Around} {E : Value → Shared → Prop} (hL : env.locals = L) (hn : s.heap.Ns L m) (hv : m x = some v) (h : Q v s)
    (hk : env.scope.kind = .function) (hl : env.kindOf x = some .local) (hd : (x == ("__debug__" : Str)) = false) :
    wpAny M A (eval (.Name x pos) env) Q E s := by
  subst hL
  exact wpAny_Name (wpAny_loadName_local hk hl hn hv h) hd
theorem callWithK {M : Model} {A : Around} {E : Value → Shared → Prop} {s : Shared} {i : String} {u x : Addr} {pos : Pos} {env : Env} {e : Expr} {rest : List Expr} {Q : Value → Shared → Prop}
    (h : wpAny M A (spliced (backTo pos (starEach (e :: rest) env))) (fun vs s₁ => KxsAt i u x s₁.heap ∧ wpAny M A (call (.ref u) vs) Q E s₁) E s)
    (he : starEach (e :: rest) env = (false, eval e env) :: starEach rest env := by rfl) (hplain : (backTo pos (starEach rest env)).any (·.1) = false := by rfl) :
    wpAny M A (callWith pos (.ref u) [] (backTo pos (starEach (e :: rest) env)) []) Q E s := by
  rw [he] at h ⊢
  refine kxs_callWith (i := i) (x := x) (by show (false || (backTo pos (starEach rest env)).any (·.1)) = false; rw [hplain]; rfl) ?_
  exact evalArgs_plain h
section
variable {P : Program} {w : World} {A : Around} {E : Value → Shared → Prop} {R : Result → Shared → Prop} {s : Shared} {K : Frag} {mg : Str → Option Value} {C fI : Addr} {cn fn : Str}
theorem e_init (T : ETxt P K mg cn fn C fI) (hfn : fn ≠ "self") (hfd : (fn == ("__debug__" : Str)) = false) (hfs : (fn == ("super" : Str)) = false) (hfc : (fn == ("__class__" : Str)) = false) {x t0 : Addr} {v : Value} {mb : Str → Option Value} (X : K.In s.heap) (hg : s.heap.Ns mainGlobals mg) (hb : s.heap.Ns builtinsNs mb) (hbb : ∀ y : Str, y ≠ "__name__" → mb y = bootBuiltins y)
    (hlim : s.heap.NoLimit) (hx : s.heap.get? x = some (excO C t0)) (hnx : K.lookup x = none) (hroom : A.depth < recursionLimit)
    (hq : ∀ h' tk dx t1, IEnd fn s.heap h' x C dx t1 v → R (.ok (.ret .none)) { s with heap := h', toks := tk }) :
    codeAny (model P w) A (.call (.ref fI) ⟨[.ref x, v], []⟩) R s := by
  obtain ⟨oc, od, params, body, scope, qual, doc, pm, an, cda, cc, ct, osl, p1, p2, a1, a2, a3, a4, a5, a6, b1, b2, b3, b4, j, txt, ccl, cl, cdd, cld, vs, ccs, csl, file, tf, ho, hcd, rfl, rfl, rfl, hbn, ⟨pl, hev⟩, hsw1, hsw2, hcda, hvs, hfile, hcell⟩ := T.fun_
  obtain ⟨nm, q, N, bs, bm, sn, sub, ab, col, dd, k0, k1, k2, k3, k5, hC, hbm⟩ := T.cls
  have hcl : clsIn K C = some { name := nm, bases := bs, mro := .ref C :: bm, ns := N, qualname := q, hasDict := true, slotNames := sn, subclasses := sub, abstract := ab, collection := col, hasDel := false } := by unfold clsIn; rw [hC] <;> rfl
  have hal : alongIn K "__init__" (((Value.ref C :: bm).dropWhile (· != .ref C)).drop 1) = some (some (.builtin "ValueError.__init__")) := by
    have z := T.alo
    unfold ks_superIn at z
    rw [hcl] at z
    exact z
  have hsf : (("self" : Str) == fn) = false := by simpa using fun e => hfn e.symm
  have hfs' : (fn == ("self" : Str)) = false := by simpa using hfn
  have lk_self : List.lookup ("self" : Str) [(("self" : Str), NameKind.local), (fn, .local), ("__class__", .free), ("super", .globalImplicit)] = some .local := by simp [List.lookup]
  have lk_fn : List.lookup fn [(("self" : Str), NameKind.local), (fn, .local), ("__class__", .free), ("super", .globalImplicit)] = some .local := by simp [List.lookup, hfs']
  have e1 : (("super" : Str) == ("self" : Str)) = false := by decide
  have e2 : (("super" : Str) == fn) = false := by
    have z : ¬ fn = "super" := by simpa using hfs
    simpa using fun e => z e.symm
  have e3 : (("super" : Str) == ("__class__" : Str)) = false := by decide
  have e4 : (("__class__" : Str) == ("self" : Str)) = false := by decide
  have e5 : (("__class__" : Str) == fn) = false := by
    have z : ¬ fn = "__class__" := by simpa using hfc
    simpa using fun e => z e.symm
  have lk_super : List.lookup ("super" : Str) [(("self" : Str), NameKind.local), (fn, .local), ("__class__", .free), ("super", .globalImplicit)] = some .globalImplicit := by simp [List.lookup, e1, e2, e3]
  have lk_cls : List.lookup ("__class__" : Str) [(("self" : Str), NameKind.local), (fn, .local), ("__class__", .free), ("super", .globalImplicit)] = some .free := by simp [List.lookup, e4, e5]
  refine ks_codeAny_call_defAt (binds := [("self", .ref x), (fn, v)]) hroom (X _ _ ho) rfl hlim (codeRec_of X hcd) rfl (BindsTo.of_eq ?_) ?_ ?_ (fun h₁ hns k => ?_) rfl rfl rfl
  · exact hbn x v
  · intro y hy
    simp only [List.mem_cons, List.not_mem_nil, or_false] at hy
    rcases hy with rfl | rfl | rfl | rfl <;> exact fun e => nomatch e
  · intro y hy
    simp only [List.mem_cons, List.not_mem_nil, or_false] at hy
    rcases hy with rfl | rfl
    · exact lk_self
    · exact lk_fn
  have X₁ : K.In h₁ := X.keeps k
  have hx₁ := k _ _ hx
  refine ks_wpAt_execs_cons (ks_wpAt_Expr_any (ks_wpAt_MethodCall ?_ (hev _)) rfl (hsw1 _))
  obtain ⟨oD, hD1, hD2⟩ : ∃ oD, h₁.get? C = some oD ∧ oD.data = .cls { name := nm, bases := bs, mro := .ref C :: bm, ns := N, qualname := q, hasDict := true, slotNames := sn, subclasses := sub, abstract := ab, collection := col, hasDel := false } := ⟨_, X₁ _ _ hC, rfl⟩
  have hkg : ∀ b o, s.heap.get? b = some o → h₁.get? b = some o := k
  refine ks_wpAt_super_base lk_super lk_cls (by decide) rfl (X₁ _ _ ho) rfl rfl rfl (X₁ _ _ hcda) rfl hvs hfile T.top ?_
  refine ks_loadName_global rfl lk_super (loadGlobal_builtin (hg.keeps k) T.sup (hb.keeps k) ((hbb _ (by decide +kernel)).trans (by decide +kernel)) ⟨rfl, ?_⟩)
  refine wpAny_loadName_free rfl lk_cls rfl ⟨_, X₁ _ _ hcell, rfl⟩ ?_
  refine wpAny_loadName_local rfl lk_self hns (v := .ref x) (by simp [List.lookup, hsf]) ?_
  refine ks_wpAny_isType_cls hD1 hD2 ⟨rfl, ?_⟩
  refine ks_wpAny_call_super hD1 hD2 hx₁ rfl (fun c e => nomatch e) (looks_mroIn X₁ T.slf) (fun h₂ e k₂ => ?_)
  -- its __init__, bound
  have X₂ : K.In h₂ := X₁.keeps k₂
  have hx₂ := k₂ _ _ hx₁
  have hxC : x ≠ C := fun z => by rw [z, hC] at hnx; cases hnx
  have I₂ : InstAt h₂ x (excO C t0) C none := ⟨hx₂, rfl, rfl, trivial⟩
  refine kxs_getMethod kxs_ValueError e (looks_opaque X₂ T.opq) (l₀ := .ref C :: bm) (fun A Q E s k q => wpAny_bind ((looks_clsIn X₂ hcl) A _ E s k (wpAny_pure q))) rfl X₂ hal (I₂.type.andThen (looks_subIn X₂ T.veC)) hxC (by decide) ?_
  -- the call
  have k₃ : ∀ b o, h₂.get? b = some o → (h₂.push (kxs_mw "ValueError.__init__" x)).get? b = some o := fun b o z => Heap.get?_push_of_some _ z
  have X₃ : K.In (h₂.push (kxs_mw "ValueError.__init__" x)) := X₂.keeps k₃
  have hx₃ := k₃ _ _ hx₂
  have hm₃ : (h₂.push (kxs_mw "ValueError.__init__" x)).get? h₂.objs.size = some (kxs_mw "ValueError.__init__" x) := Heap.get?_push_at rfl rfl
  generalize (h₂.push (kxs_mw "ValueError.__init__" x)) = h₃ at k₃ X₃ hx₃ hm₃ ⊢
  show wpAny _ _ (callWith a5 (.ref h₂.objs.size) [] (backTo a5 (starEach [.Constant (.str txt) j a4] _)) []) _ _ _
  refine callWithK (i := "ValueError.__init__") (x := x) (spliced_cons (Calls.Constant_str (pos := a4) (k := j) (spliced_nil ⟨hm₃, ?_⟩)))
  -- ValueError.__init__ lays the args anew
  refine wpAny_call (codeAny_of_tree ?_)
  show wpAny _ _ (callAny (.ref h₂.objs.size) ⟨_, []⟩) _ _ _
  simp only [callAny]
  refine wpAny_bind (wpAny_load hm₃ ?_)
  simp only [kxs_mw, show (Value.type "method-wrapper" == Value.type "method" || Value.type "method-wrapper" == Value.type "builtin_function_or_method" || Value.type "method-wrapper" == Value.type "method-wrapper") = true by decide, if_true]
  refine KFB.if_so (by decide) ?_
  refine wpAny_bind (check_bound_init F.excBase_ValueError.toExcCallFacts (X₃ _ _ hC) hx₃ rfl ?_)
  refine wpAny_bind (wpAny_pure (wpAny_pure ?_))
  refine ⟨plainId_quiet F.excBase_ValueError.init.plain _, codeAny_builtin F.excBase_ValueError.initEntry ?_⟩
  refine exc_init_tree (cls := .ref C) (t0 := t0) (dv := none) (c2 := .none) (c3 := .none) (b4 := .bool false) hx₃ (by rw [sizeLine_eq]; exact (by decide : 1 ≤ 16777216)) (fun h₄ k₄ hx₄ _ => ?_)
  -- the value is dropped; self.F = F
  have k₁₄ : ∀ b o, b ≠ x → h₁.get? b = some o → h₄.get? b = some o := fun b o hb z => k₄ b o hb (k₃ _ _ (k₂ _ _ z))
  have X₄ : K.In h₄ := fun a o z => k₁₄ a o (fun e => by rw [e, hnx] at z; cases z) (X₁ a o z)
  have hxL : s.heap.objs.size ≠ x := Nat.ne_of_gt (Heap.lt_size hx)
  have hn₄ : h₄.Ns s.heap.objs.size (fun y => List.lookup y ([(("self" : Str), Value.ref x), (fn, v)].reverse)) := by
    obtain ⟨oL, es, ep, hL, r⟩ := hns
    exact ⟨oL, es, ep, k₁₄ _ _ hxL hL, r⟩
  have hsz : s.heap.objs.size < h₁.objs.size := hns.lt
  refine ks_wpAt_execs_cons (ks_wpAt_Assign_Attr (wpAt_of_wpAny ?_) (hsw2 _))
  refine ldK rfl hn₄ (v := v) (by simp [List.lookup]) ?_ rfl lk_fn hfd
  refine ldK rfl hn₄ (v := .ref x) (by simp [List.lookup, hsf]) ?_ rfl lk_self (by decide)
  refine set_plain X₄ (ox := excO C h₃.objs.size) (od := none) ⟨hx₄, rfl, rfl, trivial⟩ T.sa ?_
  refine exc_osa X₄ hx₄ hcl (show refsVE (.ref C :: bm) = true from hbm) rfl T.noN (fun h₅ tk₅ dx k₅ dn dne hx₅ hn₅ => ?_)
  refine wpAt_of_wpAny (wpAny_execs_nil (hq h₅ tk₅ dx _ ⟨fun b o hb z => k₅ b o hb (k₁₄ b o hb (k b o z)), hx₅, ?_, dne, hn₅⟩))
  have z : s.heap.objs.size < h₄.objs.size := hn₄.lt
  exact Nat.le_of_lt (Nat.lt_of_lt_of_le z dn)
/-- a made one -/
structure EMade (fn : Str) (h h' : Heap) (e C d : Addr) (v : Value) : Prop where
  keep : ∀ b o, h.get? b = some o → h'.get? b = some o
  new : h.objs.size ≤ e
  obj : ∃ oe vs, h'.get? e = some oe ∧ oe.cls = .ref C ∧ oe.dict = some d ∧ oe.data = .fields vs ∧ vs[1]? = some .none
  dbig : h.objs.size ≤ d
  dne : d ≠ e
  ns : h'.Ns1 d (fun y => if y = fn then some v else none)
theorem one_size (v : Value) : [v].length ≤ sizeLine := by
  rw [sizeLine_eq]
  exact (by decide : 1 ≤ 16777216)
/-- the field's name -/
structure FnOk (fn : Str) : Prop where
  ns : fn ≠ "self"
  fd : (fn == ("__debug__" : Str)) = false
  fs : (fn == ("super" : Str)) = false
  fc : (fn == ("__class__" : Str)) = false
theorem e_made (T : ETxt P K mg cn fn C fI) (N0 : FnOk fn) {v : Value} {mb : Str → Option Value} (X : K.In s.heap) (hg : s.heap.Ns mainGlobals mg) (hb : s.heap.Ns builtinsNs mb) (hbb : ∀ y : Str, y ≠ "__name__" → mb y = bootBuiltins y) (hlim : s.heap.NoLimit) (hroom : A.depth + 1 < recursionLimit)
    (hq : ∀ h' tk e d, EMade fn s.heap h' e C d v → R (.ok (.ret (.ref e))) { s with heap := h', toks := tk }) :
    codeAny (model P w) A (.call (.ref C) ⟨[v], []⟩) R s := by
  obtain ⟨nm, q, N, bs, bm, sn, sub, ab, col, dd, k0, k1, k2, k3, k5, hC, hbm⟩ := T.cls
  obtain ⟨hp, g, dr, tk, os⟩ := s
  have k : ∀ b o, hp.get? b = some o → ((hp.push (kdv_tup [v])).push (excO C hp.objs.size)).get? b = some o := fun b o e => Heap.get?_push_of_some _ (Heap.get?_push_of_some _ e)
  have hget : ((hp.push (kdv_tup [v])).push (excO C hp.objs.size)).get? (hp.objs.size + 1) = some (excO C hp.objs.size) := by heap_get
  have hnx : K.lookup (hp.objs.size + 1) = none := by
    cases e : K.lookup (hp.objs.size + 1) with
    | none => rfl
    | some o =>
      have z : hp.get? (hp.objs.size + 1) = some o := X _ _ e
      exact absurd (Nat.lt_of_succ_lt (Heap.lt_size z)) (Nat.lt_irrefl _)
  refine call_own F.excBase_ValueError (fun X => refsVE_contains X bm hbm) (X _ _ hC) (looks_findIn X T.iC) (fun self => bind_fn X self T.tC) (one_size v) ?_
  refine e_init (s := ⟨(hp.push (kdv_tup [v])).push (excO C hp.objs.size), g, dr, tk, os⟩) T N0.ns N0.fd N0.fs N0.fc (X.keeps k) (hg.keeps k) (hb.keeps k) hbb (hlim.keeps k) hget hnx ?_ fun h' tk' dx t1 ⟨k', hx, dn, dne, hns⟩ => ?_
  · show A.depth + 1 < recursionLimit
    exact hroom
  · have old : ∀ b o, hp.get? b = some o → h'.get? b = some o := fun b o e => k' b o (Nat.ne_of_lt (Nat.lt_succ_of_lt (Heap.lt_size e))) (k b o e)
    have z : hp.objs.size + 1 + 1 ≤ dx := by
      have q := dn
      rw [Heap.size_push, Heap.size_push] at q
      exact q
    exact ⟨rfl, hq h' tk' (hp.objs.size + 1) dx ⟨old, Nat.le_succ _, ⟨_, _, hx, rfl, rfl, rfl, rfl⟩, Nat.le_trans (Nat.le_trans (Nat.le_succ _) (Nat.le_succ _)) z, dne, hns⟩⟩
end
end ExS
end PySem
namespace Ov
open PySem PySem.Spec PyProof.Rows L2
theorem relO_one {fn : Str} {v : V} {v' : Value} (r : RelV v v') (f : Str) : RelO (List.lookup f [(fn, v)]) (if f = fn then some v' else none) := by
  by_cases hw : f = fn
  · subst hw
    rw [if_pos rfl, show List.lookup f [(f, v)] = some v by simp [List.lookup]]
    exact r
  · rw [if_neg hw, show List.lookup f [(fn, v)] = none by
      have qw : (f == fn) = false := by simpa using hw
      simp [List.lookup, qw]]
    trivial
section
variable {X : Cx} {C fI : Addr} {cn fn : Str}
/-- E(e), E an own error -/
def tMkE (C : Addr) (fn : Str) (ta : TA) : L2.St → Hp → XK → Prop := fun σ H Q => ta σ H fun vs H1 => ∃ v, vs = [v] ∧ ∀ d, H1 d = none → Q (.ref C) (some d) (upd H1 d (.xd [(fn, v)]))
theorem pmk_e {a : Expr} {ta : TA} {p pos : Pos} {k : Nat} (T : PySem.ExS.ETxt X.prog X.K X.mg cn fn C fI) (N0 : PySem.ExS.FnOk fn) (hr : Room k X.A) (ha : PA X [a] ta) (hg : Gl X cn) (hdb : (cn == ("__debug__" : Str)) = false)
    (he : starEach (a :: []) X.env = (false, eval a X.env) :: starEach [] X.env := by rfl) (hpl : (backTo pos (starEach [] X.env)).any (·.1) = false := by rfl) :
    PMk X (.Call (.Name cn p) [a] [] pos) (tMkE C fn ta) := by
  intro pins s σ H Q I h
  refine wpAny_Call_Name_kw (ld_glob I hg T.gC ?_ hdb)
  refine PySem.W.callWith_K (h₀ := X.base) I.ok.mod.kin T.kC (thn (ha.run pos pins s σ H _ I h) fun us s1 hh => ?_) he hpl
  obtain ⟨vs, H1, I1, r1, v, ev, q1⟩ := hh
  subst ev
  refine ⟨I1.kIn, ?_⟩
  cases r1 with
  | cons rv rn =>
    rename_i v' us'
    cases rn
    show wpAny _ _ (call (.ref C) [v']) _ _ _
    have hlim := I1.nolimit
    obtain ⟨mb, hb, hbb⟩ := I1.mod.blt
    have hgl := I1.mod.glob
    have kb := I1.bk
    obtain ⟨hp, g, dr, tk, os⟩ := s1
    refine wpAny_call (PySem.ExS.e_made T N0 I1.kIn (hgl.keeps kb) (hb.keeps kb) hbb hlim (by have := hr.dp; omega) fun h' tk' e d M => ?_)
    show MkP X pins σ Q (.ref e) ⟨h', g, dr, tk', os⟩
    obtain ⟨oe, fv, hoe, hc, hd, hdat, h1⟩ := M.obj
    have hns := M.ns
    obtain ⟨G', g1, g2⟩ := restrict h' fun b => decide (b ≠ e)
    have gk : ∀ b, b ≠ e → G'.get? b = h'.get? b := fun b hb => g1 b (decide_eq_true hb)
    have ge : G'.get? e = none := g2 e (by simp)
    have old : ∀ b o, hp.get? b = some o → G'.get? b = some o := fun b o q => (gk b (Nat.ne_of_lt (Nat.lt_of_lt_of_le (Heap.lt_size q) M.new))).trans (M.keep b o q)
    have ob : ObjOk X.prog X.w (upd H1 d (.xd [(fn, v)])) G' d (.xd [(fn, v)]) :=
      ⟨_, hns.at (fun o q => (gk d M.dne).trans q), fun f => relO_one rv f⟩
    have J : Inv X pins σ (upd H1 d (.xd [(fn, v)])) ⟨G', g, dr, tk', os⟩ := I1.laid (t' := tk') old M.dbig ob
    refine ⟨e, oe, fv, ⟨G', g, dr, tk', os⟩, _, .ref C, some d, rfl, J, fun b o q => ?_, ge, hoe, ⟨hc, hd⟩, hdat, h1, ?_, rfl, I1.bare, raises_own T.exC T.tyC, q1 d (I1.hok.fresh M.dbig)⟩
    · by_cases hb : b = e
      · have q' : G'.get? b = some o := q
        rw [hb, ge] at q'; cases q'
      · exact (gk b hb).symm.trans q
    · rw [upd_ne (Ne.symm M.dne)]
      exact I1.hok.fresh M.new
/-- raise E(e) -/
def tRaiseE (C : Addr) (fn : Str) (W : WX) (ta : TA) : TS := fun _ σ H => tMkE C fn ta σ H fun cls d H' => W cls d σ H'
theorem ps_raiseE {a : Expr} {ta : TA} {W : WX} {p pos pos2 : Pos} {k : Nat} (hc : X.calm = true) (T : PySem.ExS.ETxt X.prog X.K X.mg cn fn C fI) (N0 : PySem.ExS.FnOk fn) (hr : Room k X.A) (tk : Takes X W) (ha : PA X [a] ta) (hg : Gl X cn) (hdb : (cn == ("__debug__" : Str)) = false)
    (he : starEach (a :: []) X.env = (false, eval a X.env) :: starEach [] X.env := by rfl) (hpl : (backTo pos (starEach [] X.env)).any (·.1) = false := by rfl) :
    PS X (.Raise (some (.Call (.Name cn p) [a] [] pos)) none pos2) (tRaiseE C fn W ta) := ps_raise hc tk (pmk_e T N0 hr ha hg hdb he hpl)
/-- isinstance(e, c) and isinstance(e, (c1, c2, ..)), e the exception that the suite holds (at a; its class cls, its dict d) -/
def rIsX (K : PySem.W.Frag) (a : Addr) (cls : Value) (d : Option Addr) : List V → Hp → VK → Prop := fun xs H Q => ∃ (D dd : Addr) (fs : List (Str × V)), cls = .ref D ∧ d = some dd ∧ H dd = some (.xd fs) ∧ ExcC K D ∧
  ((∃ (c : V) (u : Value) (b : Bool), xs = [.ref a, c] ∧ ClsV c u ∧ PySem.W.kitOne K (.ref D) u = some b ∧ Q (.bl b) H) ∨
    ∃ (tp : Addr) (cs : List V) (us : List Value) (b : Bool), xs = [.ref a, .ref tp] ∧ H tp = some (.tup cs) ∧ Paired ClsV cs us ∧ PySem.W.kitAny K (.ref D) us = some b ∧ Q (.bl b) H)
theorem call_isX {a : Addr} {cls : Value} {d : Option Addr} {oe : Obj} {pn : List (Addr × Obj)} (hz : Zc cls d oe) (hf : ∃ vs, oe.data = .fields vs) : CallR (X.suite a ((a, oe) :: pn)) (.builtin "isinstance") (rIsX X.K a cls d) := by
  intro pins s σ H xs us Q I r h
  obtain ⟨D, dd, fs, rfl, rfl, hdd, C, h⟩ := h
  obtain ⟨ha, _⟩ := I.pin (a, oe) (List.mem_append_left _ List.mem_cons_self)
  obtain ⟨vs, hd⟩ := hf
  obtain ⟨mA, hns, _⟩ := (show ObjOk X.prog X.w H s.heap dd (.xd fs) from I.hok dd _ hdd)
  obtain ⟨od, ho, _⟩ := lookIn_ns hns
  have J : PySem.W.InstAt s.heap a oe D (some od) := ⟨ha, hz.1, by unfold PySem.W.notCls; rw [hd] <;> rfl, by rw [hz.2]; exact ho⟩
  have hcl : (PySem.W.clsIn X.K D).isSome = true := by
    have z := C.hd
    unfold PySem.W.hasDictIn at z
    obtain ⟨cd, hcd, _⟩ := PySem.W.any_some z
    rw [hcd]
    rfl
  have Z := PySem.W.kitx_exc (x := a) (ox := oe) (od := some od) hcl C.hg C.hk C.hs C.ha C.hn C.ht C.hm
  rcases h with ⟨c, u, b, rfl, hc, e, q⟩ | ⟨tp, cs, ws, b, rfl, hT, k, e, q⟩
  · obtain ⟨u1, u2, rfl, r1, r2⟩ := vals2 r
    have e1 : u1 = .ref a := r1
    subst e1
    have e2 := hc.eq r2
    subst e2
    exact PySem.W.kia_one Z I.kIn J e (fun z => nomatch z) fun tk => ⟨.bl b, H, I.tok tk, rfl, q⟩
  · obtain ⟨u1, u2, rfl, r1, r2⟩ := vals2 r
    have e1 : u1 = .ref a := r1
    subst e1
    cases (show u2 = Value.ref tp from r2)
    obtain ⟨_, its, rv, o, h1, h2, n, h3⟩ := (show ObjOk X.prog X.w H s.heap tp (.tup cs) from I.hok tp _ hT)
    have e3 := ClsV.all k rv
    subst e3
    obtain ⟨oc, od', dt, sl⟩ := o
    simp only at h2 h3
    subst h2 h3
    exact PySem.W.kia_tup Z I.kIn J h1 e (fun z => nomatch z) fun tk => ⟨.bl b, H, I.tok tk, rfl, q⟩
end
/-- a constant of the module -/
theorem pe_gs {X : Cx} {x : Str} {v : V} {pos : Pos} (hg : Gl X x) (hm : ∃ u, X.mg x = some u ∧ RelV v u) (hd : (x == ("__debug__" : Str)) = false := by decide) : PE X (.Name x pos) (tC v) := by
  obtain ⟨u, hm, r⟩ := hm
  exact pe_glob hg hm r hd
section
variable {X : Cx} {k : Nat} {x : Str} {ps : List Str} {sp : Sp} {p pos : Pos} {e : Expr} {es : List Expr} {t : TA}
/-- a def that may raise, called where what it raises is let out | caught -/
theorem pe_fnX {E : XK} (c : Cal X.prog X.w X.K X.mg X.base (L2.CX X.prog X.w) k x ps sp) (hr : Room k X.A) (hx : Passes (L2.CX X.prog X.w) X E) (hg : Gl X x) (ha : PA X (e :: es) t) (hdb : (x == ("__debug__" : Str)) = false := by decide)
    (he : starEach (e :: es) X.env = (false, eval e X.env) :: starEach es X.env := by rfl) (hpl : (backTo pos (starEach es X.env)).any (·.1) = false := by rfl) : PE X (.Call (.Name x p) (e :: es) [] pos) (tCall sp [] E t) := by
  obtain ⟨f, fd, F, m, kp, b⟩ := c
  exact pe_call F hr hg m kp b .nil hx ha hdb he hpl
theorem pe_fnS {W : WX} (c : Cal X.prog X.w X.K X.mg X.base (L2.CX X.prog X.w) k x ps sp) (hr : Room k X.A) (tk : Takes X W) (hg : Gl X x) (ha : PA X (e :: es) t) (hdb : (x == ("__debug__" : Str)) = false := by decide)
    (he : starEach (e :: es) X.env = (false, eval e X.env) :: starEach es X.env := by rfl) (hpl : (backTo pos (starEach es X.env)).any (·.1) = false := by rfl) : PE X (.Call (.Name x p) (e :: es) [] pos) (tCallS sp (WE W) t) := by
  obtain ⟨f, fd, F, m, kp, b⟩ := c
  exact pe_callS F hr hg m kp b (fun σ => passAt tk σ) ha hdb he hpl
end
end Ov

set_option Elab.async false
set_option linter.all false
set_option maxRecDepth 100000
namespace Ov
open PySem PySem.Spec PyProof.Rows L2
structure Ad where
  c_BadAction : Addr
  c_BadKind : Addr
  c_BadName : Addr
  c_BadNumber : Addr
  c_BadStatement : Addr
  c_DeedError : Addr
  c_TooLarge : Addr
  i_BadNumber : Addr
abbrev g_GREATEST_NUMBER : V := .int 999
structure Caught (K : PySem.W.Frag) (A : Ad) : Prop where
  xf_BadNumber : XfC K A.c_BadNumber
  x_BadNumber : ExcC K A.c_BadNumber
  m_BadNumber : PySem.W.exmOne K (.ref A.c_BadNumber) (.ref A.c_BadNumber) = some true
  k_BadNumber__t_BadAction_BadKind_BadName_BadStatement_TooLarge : PySem.W.kitAny K (.ref A.c_BadNumber) [.ref A.c_BadAction, .ref A.c_BadKind, .ref A.c_BadName, .ref A.c_BadStatement, .ref A.c_TooLarge] = some false
  k_BadNumber__DeedError : PySem.W.kitOne K (.ref A.c_BadNumber) (.ref A.c_DeedError) = some true
  k_BadNumber__ValueError : PySem.W.kitOne K (.ref A.c_BadNumber) (.type "ValueError") = some true
/-! ### promises by their arguments -/
def Sp1 (φ : V → Hp → VK → XK → Prop) : Sp := fun vs H Q E => ∃ a, vs = [a] ∧ φ a H Q E
def Sp0 (φ : Hp → VK → XK → Prop) : Sp := fun vs H Q E => vs = [] ∧ φ H Q E
def Sp2 (φ : V → V → Hp → VK → XK → Prop) : Sp := fun vs H Q E => ∃ a b, vs = [a, b] ∧ φ a b H Q E
def Sp3 (φ : V → V → V → Hp → VK → XK → Prop) : Sp := fun vs H Q E => ∃ a b c, vs = [a, b, c] ∧ φ a b c H Q E
def Sp4 (φ : V → V → V → V → Hp → VK → XK → Prop) : Sp := fun vs H Q E => ∃ a b c d, vs = [a, b, c, d] ∧ φ a b c d H Q E
def Sp5 (φ : V → V → V → V → V → Hp → VK → XK → Prop) : Sp := fun vs H Q E => ∃ a b c d e, vs = [a, b, c, d, e] ∧ φ a b c d e H Q E
section
variable {vs : List V} {H : Hp} {Q : VK} {E : XK}
theorem len0 {φ} (h : Sp0 φ vs H Q E) : vs.length = 0 := by obtain ⟨rfl, _⟩ := h; rfl
theorem len1 {φ} (h : Sp1 φ vs H Q E) : vs.length = 1 := by obtain ⟨_, rfl, _⟩ := h; rfl
theorem len2 {φ} (h : Sp2 φ vs H Q E) : vs.length = 2 := by obtain ⟨_, _, rfl, _⟩ := h; rfl
theorem len3 {φ} (h : Sp3 φ vs H Q E) : vs.length = 3 := by obtain ⟨_, _, _, rfl, _⟩ := h; rfl
theorem len4 {φ} (h : Sp4 φ vs H Q E) : vs.length = 4 := by obtain ⟨_, _, _, _, rfl, _⟩ := h; rfl
theorem len5 {φ} (h : Sp5 φ vs H Q E) : vs.length = 5 := by obtain ⟨_, _, _, _, _, rfl, _⟩ := h; rfl
theorem s0 {φ : Hp → VK → XK → Prop} (h : φ H Q E) : Sp0 φ ([] ++ []) H Q E := ⟨rfl, h⟩
theorem s1 {a : V} {φ : V → Hp → VK → XK → Prop} (h : φ a H Q E) : Sp1 φ ([a] ++ []) H Q E := ⟨_, rfl, h⟩
theorem s2 {a b : V} {φ : V → V → Hp → VK → XK → Prop} (h : φ a b H Q E) : Sp2 φ ([a, b] ++ []) H Q E := ⟨_, _, rfl, h⟩
theorem s3 {a b c : V} {φ : V → V → V → Hp → VK → XK → Prop} (h : φ a b c H Q E) : Sp3 φ ([a, b, c] ++ []) H Q E := ⟨_, _, _, rfl, h⟩
theorem s4 {a b c d : V} {φ : V → V → V → V → Hp → VK → XK → Prop} (h : φ a b c d H Q E) : Sp4 φ ([a, b, c, d] ++ []) H Q E := ⟨_, _, _, _, rfl, h⟩
theorem s5 {a b c d e : V} {φ : V → V → V → V → V → Hp → VK → XK → Prop} (h : φ a b c d e H Q E) : Sp5 φ ([a, b, c, d, e] ++ []) H Q E := ⟨_, _, _, _, _, rfl, h⟩
end
/-! ### heaps that differ at one place alone -/
def Off (p : Addr) (H H' : Hp) : Prop := ∀ q, q ≠ p → H' q = H q
theorem Off.refl {p : Addr} {H : Hp} : Off p H H := fun _ _ => rfl
theorem Off.trans {p : Addr} {H H1 H2 : Hp} (a : Off p H H1) (b : Off p H1 H2) : Off p H H2 := fun q h => (b q h).trans (a q h)
theorem Off.upd {p : Addr} {H : Hp} {o : HO} : Off p H (upd H p o) := fun _ h => upd_ne h
theorem Off.to {p q : Addr} {H H' : Hp} {o : Option HO} (a : Off p H H') (h : H q = o) (ne : q ≠ p) : H' q = o := (a q ne).trans h
/-! ### the pool of draws -/
structure Pool (H : Hp) (p : Addr) : Prop where
  ex : ∃ (l : Addr) (cs : List Int) (a b c d : Int), H p = some (.lst [.ref l, .int a, .int b, .int c, .int d]) ∧ H l = some (.lst (cs.map V.int)) ∧ l ≠ p ∧ 0 ≤ a ∧ 0 ≤ c ∧ c < 10 ^ 18 ∧ d ≤ 7
theorem Pool.off {H H' : Hp} {p q : Addr} (P : Pool H p) (o : Off q H H') (hq : ∀ xs, H q ≠ some (.lst xs)) : Pool H' p := by
  obtain ⟨l, cs, a, b, c, d, hp, hl, ne, h⟩ := P
  exact ⟨l, cs, a, b, c, d, o.to hp (fun e => hq _ (e ▸ hp)), o.to hl (fun e => hq _ (e ▸ hl)), ne, h⟩
theorem Pool.new {H : Hp} {p q : Addr} {o : HO} (P : Pool H p) (hq : H q = none) : Pool (L2.upd H q o) p := P.off Off.upd fun xs e => by rw [hq] at e; cases e
/-- what a draw leaves: the pool again, all else as it was -/
def Drawn (H : Hp) (p : Addr) (H' : Hp) : Prop := Pool H' p ∧ Off p H H'

local macro_rules | `(tactic| walk_at "r1") => `(tactic| (first
  | with_reducible refine q_seq ?_ | with_reducible refine q_asg ?_ | with_reducible refine q_name ?_ | with_reducible refine q_ret ?_ | with_reducible refine q_drop ?_ | with_reducible refine q_next ?_
  | with_reducible refine q_ifS ?_ | with_reducible refine q_ifE ?_ | with_reducible refine q_op ?_ | with_reducible refine q_un ?_ | with_reducible refine q_test ?_ | with_reducible refine q_tB ?_ | with_reducible refine q_bl ?_
  | with_reducible refine q_c ?_ | with_reducible refine q_cons ?_ | with_reducible refine q_nil ?_ | with_reducible refine q_call ?_ | with_reducible refine q_cb ?_ | with_reducible refine q_gsub ?_
  | with_reducible refine q_sl ?_ | with_reducible refine q_noPart ?_ | with_reducible refine q_part ?_ | with_reducible refine q_int ?_
  | with_reducible refine q_addI ?_ | with_reducible refine q_subI ?_ | with_reducible refine q_ltI ?_ | with_reducible refine q_leI ?_ | with_reducible refine q_gtI ?_ | with_reducible refine q_geI ?_ | with_reducible refine q_negI ?_
  | with_reducible refine q_cIntI ?_ | with_reducible refine q_cAbs ?_ | with_reducible refine q_isN ?_ | with_reducible refine q_notN ?_
  | with_reducible refine q_and ?_ | with_reducible refine q_or ?_ | with_reducible refine q_not ?_ | with_reducible refine q_andV ?_ | with_reducible refine q_orV ?_ | with_reducible refine q_notV ?_
  | ((with_reducible show tVar _ _ _ _); refine q_var rfl ?_)))
local macro_rules | `(tactic| walk_at "rd") => `(tactic| repeat walk_at "r1")
local macro_rules | `(tactic| walk_at "mod") => `(tactic| with_reducible refine q_modI (by first | omega | decide) ?_)

theorem mul_ok {i j : Int} (a : Nat) (ha : i.natAbs < 2 ^ a) (hb : j.natAbs < 2 ^ 64) (h0 : 0 < a) (h : a ≤ 9000) : CMulW i j := wide_mul ha hb h0 (by decide) (by omega)
theorem mul64 {i j : Int} (ha : i.natAbs < 18446744073709551616) (hb : j.natAbs < 18446744073709551616) : CMulW i j := wide_mul (a := 64) (b := 64) (by simpa using ha) (by simpa using hb) (by decide) (by decide) (by decide)

theorem at_of {α : Type} {xs : List α} {i : Int} {v : α} (h0 : 0 ≤ i) (h : xs[i.toNat]? = some v) : atI xs i = some v := by
  have hl := (List.getElem?_eq_some_iff.mp h).1
  unfold atI ixN
  rw [if_pos h0, if_pos (by omega)]
  exact h
/-! ### texts by their signs -/
/-- the text of these signs -/
abbrev St8 (l : List Nat) : Str := ⟨l.toArray⟩
theorem st8_app (a b : List Nat) : St8 a ++ St8 b = St8 (a ++ b) := by
  show (⟨a.toArray ++ b.toArray⟩ : Str) = ⟨(a ++ b).toArray⟩
  rw [List.append_toArray]
theorem st8_len (a : List Nat) : (St8 a).length = a.length := rfl
theorem st8_list (a : List Nat) : (St8 a).cps.toList = a := rfl
theorem st8_of (z : Str) : z = St8 z.cps.toList := rfl
theorem st8_inj {a b : List Nat} (h : St8 a = St8 b) : a = b := by
  have h1 : (St8 a).cps.toList = (St8 b).cps.toList := by rw [h]
  exact h1
def lets : List Nat := [97, 98, 99, 100, 101, 102, 103, 104, 105, 106, 107, 108, 109, 110, 111, 112, 113, 114, 115, 116, 117, 118, 119, 120, 121, 122]
def digs : List Nat := [48, 49, 50, 51, 52, 53, 54, 55, 56, 57]
theorem lets_is : ("abcdefghijklmnopqrstuvwxyz" : Str) = St8 lets := by decide +kernel
theorem digs_is : ("0123456789" : Str) = St8 digs := by decide +kernel
/-- the signs of a name -/
structure NameL (l : List Nat) : Prop where
  fst : ∃ c r, l = c :: r ∧ c ∈ lets
  all : ∀ c ∈ l, c ∈ lets ++ digs
  len : l.length ≤ 12
/-! ### data as a whole, tracked -/
mutual
inductive Rp (H : Hp) : V → PyData → Prop
  | non : Rp H .non .none
  | bl (b : Bool) : Rp H (.bl b) (.bool b)
  | int (i : Int) : Rp H (.int i) (.int i)
  | str (x : Str) : Rp H (.str x) (.str x)
  | lst {a : Addr} {xs : List V} {ds : List PyData} : H a = some (.lst xs) → xs.length ≤ 1000000 → RpA H xs ds → Rp H (.ref a) (.list ds)
  | tup {a : Addr} {xs : List V} {ds : List PyData} : H a = some (.tup xs) → xs.length ≤ 1000000 → RpA H xs ds → Rp H (.ref a) (.tuple ds)
inductive RpA (H : Hp) : List V → List PyData → Prop
  | nil : RpA H [] []
  | cons {x : V} {d : PyData} {xs : List V} {ds : List PyData} : Rp H x d → RpA H xs ds → RpA H (x :: xs) (d :: ds)
end
theorem RpA.len {H : Hp} : ∀ {xs : List V} {ds : List PyData}, RpA H xs ds → xs.length = ds.length
  | _, _, .nil => rfl
  | _, _, .cons _ t => by rw [List.length_cons, List.length_cons, RpA.len t]
theorem RpA.get {H : Hp} : ∀ {xs : List V} {ds : List PyData} {i : Nat} {x : V}, RpA H xs ds → xs[i]? = some x → ∃ d, ds[i]? = some d ∧ Rp H x d
  | _, _, _, _, .nil, e => by cases e
  | _, _, 0, _, .cons r _, e => by
    cases e
    exact ⟨_, rfl, r⟩
  | _, _, i + 1, _, .cons _ t, e => by
    obtain ⟨d, h1, h2⟩ := RpA.get (i := i) t e
    exact ⟨d, h1, h2⟩
theorem RpA.at {H : Hp} {xs ys : List V} {ds : List PyData} {i : Nat} (a : RpA H xs ds) (b : RpA H ys ds) (hi : i < ds.length) : ∃ x y d, xs[i]? = some x ∧ ys[i]? = some y ∧ d ∈ ds ∧ Rp H x d ∧ Rp H y d := by
  have h1 : i < xs.length := by rw [a.len]; exact hi
  have h2 : i < ys.length := by rw [b.len]; exact hi
  obtain ⟨d, e1, r1⟩ := a.get (List.getElem?_eq_getElem h1)
  obtain ⟨d', e2, r2⟩ := b.get (List.getElem?_eq_getElem h2)
  rw [e1] at e2
  cases e2
  exact ⟨_, _, d, List.getElem?_eq_getElem h1, List.getElem?_eq_getElem h2, List.mem_of_getElem? e1, r1, r2⟩
theorem dep_mem : ∀ {ds : List PyData} {d : PyData}, d ∈ ds → d.depth ≤ PyData.depthAll ds
  | [], _, h => by cases h
  | x :: r, d, h => by
    show d.depth ≤ max x.depth (PyData.depthAll r)
    rcases List.mem_cons.mp h with h | h
    · rw [h]
      exact Nat.le_max_left _ _
    · exact Nat.le_trans (dep_mem h) (Nat.le_max_right _ _)
def spLaw (K : PySem.W.Frag) : Sp := Sp1 fun x H Q _ => ∃ (a : Addr) (ns : List Int), x = .ref a ∧ SqL K H a (ns.map V.int) ∧ ns.length ≤ 63 ∧ ∀ H', Q (.bl true) H'
theorem law_start (K : PySem.W.Frag) (H : Hp) (a : Addr) (ns : List Int) (hl : ns.length ≤ 63) (_ : Only H) (hS : SqL K H a (ns.map V.int)) : spLaw K [.ref a] H (fun v _ => v = .bl true) fun _ _ _ => False := ⟨_, rfl, a, ns, rfl, hS, hl, fun _ => rfl⟩
abbrev sp_law (K : PySem.W.Frag) (_ : Ad) : Sp := spLaw K
theorem same_new {H : Hp} {p : Addr} {o : HO} (h : H p = none) : Same H (upd H p o) := fun b u e => by
  rw [upd_ne (ne_of_none e h)]
  exact e
def Tk (H H' : Hp) : Prop := ∀ q xs, H q = some (.tup xs) → H' q = some (.tup xs)
theorem Tk.refl {H : Hp} : Tk H H := fun _ _ h => h
theorem Tk.trans {H H1 H2 : Hp} (a : Tk H H1) (b : Tk H1 H2) : Tk H H2 := fun q xs h => b q xs (a q xs h)
theorem Tk.new {H : Hp} {q : Addr} {o : HO} (h : H q = none) : Tk H (upd H q o) := fun a xs e => by
  rw [upd_ne (ne_of_none e h)]
  exact e
theorem Tk.lst {H : Hp} {q : Addr} {o : HO} {xs : List V} (h : H q = some (.lst xs)) : Tk H (upd H q o) := fun a ys e => by
  rw [upd_ne (ne_of e h (by intro z; cases z))]
  exact e
theorem Tk.same {H H' : Hp} (s : Same H H') : Tk H H' := fun q xs h => s q _ h
theorem Tk.drawn {H H' : Hp} {p : Addr} (P : Pool H p) (D : Drawn H p H') : Tk H H' := fun q xs h => by
  obtain ⟨l, cs, a, b, c, d, hp, _⟩ := P
  exact D.2.to h (ne_of h hp (by intro z; cases z))
theorem tyL {K : PySem.W.Frag} {H : Hp} {p : Addr} {xs : List V} (h : H p = some (.lst xs)) : tyV K "list" (.ref p) H := Or.inl ⟨rfl, _, Or.inl (Or.inl h)⟩
theorem q_raise {C : Addr} {fn : Str} {W : WX} {ta : TA} {D : Ends} {σ : L2.St} {H : Hp} (h : ta σ H fun vs H1 => ∃ v, vs = [v] ∧ ∀ d, H1 d = none → W (.ref C) (some d) σ (upd H1 d (.xd [(fn, v)]))) : tRaiseE C fn W ta D σ H := h

/-- the same data: True -/
def same_at (n : Nat) : Sp := Sp2 fun x y H Q _ => ∃ d, Rp H x d ∧ Rp H y d ∧ d.depth < n ∧ Q (.bl true) H
def t__law_same (K : PySem.W.Frag) (A : Ad) (rec : Sp) : TS :=
  (tSeq (tIfS (tTest (tOp oIsN (tVar 1) (tC .non)))
  (tRet (tOp oIsN (tVar 0) (tC .non)))
  tNext)
  (tSeq (tIfS (tB (tCB (cIsi K) (tCons (tVar 1) (tCons (tC (.ty "bool")) tNil))))
  (tRet (tAndV (tCB (cIsi K) (tCons (tVar 0) (tCons (tC (.ty "bool")) tNil))) (tOp (oEq K) (tVar 0) (tVar 1))))
  tNext)
  (tSeq (tIfS (tB (tCB (cIsi K) (tCons (tVar 1) (tCons (tC (.ty "int")) tNil))))
  (tRet (tAndV (tCB (cIsi K) (tCons (tVar 0) (tCons (tC (.ty "int")) tNil))) (tAndV (tNotV (tCB (cIsi K) (tCons (tVar 0) (tCons (tC (.ty "bool")) tNil)))) (tOp (oEq K) (tVar 0) (tVar 1)))))
  tNext)
  (tSeq (tIfS (tB (tCB (cIsi K) (tCons (tVar 1) (tCons (tC (.ty "str")) tNil))))
  (tRet (tAndV (tCB (cIsi K) (tCons (tVar 0) (tCons (tC (.ty "str")) tNil))) (tOp (oEq K) (tVar 0) (tVar 1))))
  tNext)
  (tSeq (tIfS (tAnd (tB (tCB (cIsi K) (tCons (tVar 1) (tCons (tC (.ty "tuple")) tNil)))) (tNot (tB (tCB (cIsi K) (tCons (tVar 0) (tCons (tC (.ty "tuple")) tNil))))))
  (tRet (tC (.bl false)))
  tNext)
  (tSeq (tIfS (tAnd (tB (tCB (cIsi K) (tCons (tVar 1) (tCons (tC (.ty "list")) tNil)))) (tNot (tB (tCB (cIsi K) (tCons (tVar 0) (tCons (tC (.ty "list")) tNil))))))
  (tRet (tC (.bl false)))
  tNext)
  (tSeq (tIfS (tTest (tOp (oNe K) (tCB (cLen K) (tCons (tVar 0) tNil)) (tCB (cLen K) (tCons (tVar 1) tNil))))
  (tRet (tC (.bl false)))
  tNext)
  (tSeq (tFor (iRng1 (tCons (tCB (cLen K) (tCons (tVar 1) tNil)) tNil)) (gName 2)
  (tIfS (tNot (tB (tCall rec [] E0 (tCons (tOp (oIx K) (tVar 0) (tVar 2)) (tCons (tOp (oIx K) (tVar 1) (tVar 2)) tNil)))))
  (tRet (tC (.bl false)))
  tNext))
  (tRet (tC (.bl true)))))))))))
theorem loop_same {K : PySem.W.Frag} {A : Ad} {n : Nat} {a b : Addr} {xs ys : List V} {ds : List PyData} {H : Hp} {Q : VK} {D : Ends} (hD : D.rt = Q) (ra : RpA H xs ds) (rb : RpA H ys ds) (hl : ys.length ≤ 1000000)
    (ha : SqL K H a xs ∨ SqT K H a xs) (hb : SqL K H b ys ∨ SqT K H b ys) (hd : PyData.depthAll ds < n) (k : Q (.bl true) H) {v : Option V}
    (hlen : ∀ Q' : VK, Q' (.int ys.length) H → cLen K [.ref b] H Q') :
    (tSeq (tFor (iRng1 (tCons (tCB (cLen K) (tCons (tVar 1) tNil)) tNil)) (gName 2)
  (tIfS (tNot (tB (tCall (same_at n) [] E0 (tCons (tOp (oIx K) (tVar 0) (tVar 2)) (tCons (tOp (oIx K) (tVar 1) (tVar 2)) tNil)))))
  (tRet (tC (.bl false)))
  tNext))
  (tRet (tC (.bl true)))) D [some (.ref a), some (.ref b), v] H := by
  subst hD
  walk_at "rd"
  refine q_for ?_
  refine q_cons (q_cb (q_cons (q_var rfl (q_nil (hlen _ ?_)))))
  refine q_nil ⟨_, rfl, by omega, by omega, ?_⟩
  refine for_range (fun i σ H4 => H4 = H ∧ ∃ v : Option V, σ = [some (.ref a), some (.ref b), v]) ⟨rfl, v, rfl⟩ ?_ ?_
  · rintro i σ H4 hi ⟨rfl, v, rfl⟩
    have hi' : i < ds.length := by rw [← rb.len]; omega
    obtain ⟨x, y, d, ex, ey, hm, rx, ry⟩ := ra.at rb hi'
    walk_at "rd"
    refine ⟨xs, x, ha, at_of (by omega) (by rw [show (0 + (i : Int)).toNat = i by omega]; exact ex), ?_⟩
    walk_at "rd"
    refine ⟨ys, y, hb, at_of (by omega) (by rw [show (0 + (i : Int)).toNat = i by omega]; exact ey), ?_⟩
    walk_at "rd"
    refine s2 ⟨d, rx, ry, Nat.lt_of_le_of_lt (dep_mem hm) hd, ?_⟩
    refine ⟨true, rfl, ?_⟩
    refine q_F ?_
    walk_at "rd"
    exact ⟨rfl, _, rfl⟩
  · rintro σ H4 ⟨rfl, v, rfl⟩
    walk_at "rd"
    exact k
theorem pure__law_same {K : PySem.W.Frag} {A : Ad} {n : Nat} {vs : List V} {H : Hp} {Q : VK} {E : XK} (h : same_at (n + 1) vs H Q E) : t__law_same K A (same_at n) { nx := fun _ H' => Q .non H', rt := Q } (start ["_law_actual", "_law_expected", "_law_k"] vs) H := by
  obtain ⟨x, y, rfl, d, rx, ry, hd, k⟩ := h
  have hT : ∀ n : String, n ∈ tyNames ↔ n = "bool" ∨ n = "int" ∨ n = "str" ∨ n = "tuple" ∨ n = "list" := fun n => by simp [tyNames]
  have t1 : "bool" ∈ tyNames := by simp [tyNames]
  have t2 : "int" ∈ tyNames := by simp [tyNames]
  have t3 : "str" ∈ tyNames := by simp [tyNames]
  have t4 : "tuple" ∈ tyNames := by simp [tyNames]
  have t5 : "list" ∈ tyNames := by simp [tyNames]
  unfold t__law_same
  walk_at "rd"
  cases ry with
  | non =>
    cases rx
    refine q_decT rfl ?_
    walk_at "rd"
    exact k
  | bl b =>
    cases rx
    refine q_decF (fun h => nomatch h) ?_
    walk_at "rd"
    refine q_isi true t1 rfl ?_
    walk_at "rd"
    refine q_T ?_
    walk_at "rd"
    refine q_isi true t1 rfl ?_
    refine ⟨true, rfl, q_T ?_⟩
    walk_at "rd"
    refine q_eqS rfl ?_
    rw [decide_eq_true rfl]
    exact k
  | int i =>
    cases rx
    refine q_decF (fun h => nomatch h) ?_
    walk_at "rd"
    refine q_isi false t1 rfl ?_
    walk_at "rd"
    refine q_F ?_
    walk_at "rd"
    refine q_isi true t2 rfl ?_
    walk_at "rd"
    refine q_T ?_
    walk_at "rd"
    refine q_isi true t2 rfl ?_
    refine ⟨true, rfl, q_T ?_⟩
    walk_at "rd"
    refine q_isi false t1 rfl ?_
    refine ⟨false, rfl, ?_⟩
    refine ⟨true, rfl, q_T ?_⟩
    walk_at "rd"
    refine q_eqS rfl ?_
    rw [decide_eq_true rfl]
    exact k
  | str z =>
    cases rx
    refine q_decF (fun h => nomatch h) ?_
    walk_at "rd"
    refine q_isi false t1 rfl ?_
    walk_at "rd"
    refine q_F ?_
    walk_at "rd"
    refine q_isi false t2 rfl ?_
    walk_at "rd"
    refine q_F ?_
    walk_at "rd"
    refine q_isi true t3 rfl ?_
    walk_at "rd"
    refine q_T ?_
    walk_at "rd"
    refine q_isi true t3 rfl ?_
    refine ⟨true, rfl, q_T ?_⟩
    walk_at "rd"
    refine q_eqS rfl ?_
    rw [decide_eq_true rfl]
    exact k
  | @lst b ys ds eb lb rb =>
    cases rx with
    | @lst a xs _ ea la ra =>
    refine q_decF (fun h => nomatch h) ?_
    walk_at "rd"
    refine q_isi false t1 (.inr ⟨⟨_, eb⟩, rfl⟩) ?_
    walk_at "rd"
    refine q_F ?_
    walk_at "rd"
    refine q_isi false t2 (.inr ⟨⟨_, eb⟩, rfl⟩) ?_
    walk_at "rd"
    refine q_F ?_
    walk_at "rd"
    refine q_isi false t3 (.inr ⟨⟨_, eb⟩, rfl⟩) ?_
    walk_at "rd"
    refine q_F ?_
    walk_at "rd"
    refine q_isi false t4 (.inr ⟨⟨_, eb⟩, rfl⟩) ?_
    walk_at "rd"
    refine q_F ?_
    refine q_F ?_
    walk_at "rd"
    refine q_isi true t5 (.inr ⟨⟨_, eb⟩, rfl⟩) ?_
    walk_at "rd"
    refine q_T ?_
    walk_at "rd"
    refine q_isi true t5 (.inr ⟨⟨_, ea⟩, rfl⟩) ?_
    refine ⟨true, rfl, ?_⟩
    refine q_F ?_
    walk_at "rd"
    refine q_lenL ea ?_
    walk_at "rd"
    refine q_lenL eb ?_
    refine q_neS rfl ?_
    refine ⟨_, rfl, ?_⟩
    rw [ra.len, rb.len, decide_eq_true rfl]
    refine q_F ?_
    refine q_next ?_
    exact loop_same (A := A) rfl ra rb lb (.inl (SqL.of ea)) (.inl (SqL.of eb)) (by have : PyData.depthAll ds + 1 < n + 1 := by { have e : (PyData.list ds).depth = PyData.depthAll ds + 1 := by { first | rfl | (simp [PyData.depth]) | (simp [PyData.depth]; omega) }; omega }; omega) k (fun Q' q => q_lenL eb q)
  | @tup b ys ds eb lb rb =>
    cases rx with
    | @tup a xs _ ea la ra =>
    refine q_decF (fun h => nomatch h) ?_
    walk_at "rd"
    refine q_isi false t1 (.inl ⟨⟨_, eb⟩, rfl⟩) ?_
    walk_at "rd"
    refine q_F ?_
    walk_at "rd"
    refine q_isi false t2 (.inl ⟨⟨_, eb⟩, rfl⟩) ?_
    walk_at "rd"
    refine q_F ?_
    walk_at "rd"
    refine q_isi false t3 (.inl ⟨⟨_, eb⟩, rfl⟩) ?_
    walk_at "rd"
    refine q_F ?_
    walk_at "rd"
    refine q_isi true t4 (.inl ⟨⟨_, eb⟩, rfl⟩) ?_
    walk_at "rd"
    refine q_T ?_
    walk_at "rd"
    refine q_isi true t4 (.inl ⟨⟨_, ea⟩, rfl⟩) ?_
    refine ⟨true, rfl, ?_⟩
    refine q_F ?_
    walk_at "rd"
    refine q_isi false t5 (.inl ⟨⟨_, eb⟩, rfl⟩) ?_
    walk_at "rd"
    refine q_F ?_
    refine q_F ?_
    walk_at "rd"
    refine q_lenT ea ?_
    walk_at "rd"
    refine q_lenT eb ?_
    refine q_neS rfl ?_
    refine ⟨_, rfl, ?_⟩
    rw [ra.len, rb.len, decide_eq_true rfl]
    refine q_F ?_
    refine q_next ?_
    exact loop_same (A := A) rfl ra rb lb (.inr (SqT.of ea)) (.inr (SqT.of eb)) (by have : PyData.depthAll ds + 1 < n + 1 := by { have e : (PyData.tuple ds).depth = PyData.depthAll ds + 1 := by { first | rfl | (simp [PyData.depth]) | (simp [PyData.depth]; omega) }; omega }; omega) k (fun Q' q => q_lenT eb q)
abbrev rec_law_same (n : Nat) : Sp := same_at n
theorem no_law_same {vs : List V} {H : Hp} {Q : VK} {E : XK} (h : same_at 0 vs H Q E) : False := by
  obtain ⟨_, _, _, d, _, _, hd, _⟩ := h
  exact Nat.not_lt_zero _ hd
abbrev sp__law_same (_ : PySem.W.Frag) (_ : Ad) : Sp := same_at 6

theorem va_chain {σ : L2.St} {H : Hp} {ta tb tc : TE} {f g : Int → Int → Bool} {i j k : Int} (ha : Val ta σ H (.int i)) (hb : Val tb σ H (.int j)) (hc : Val tc σ H (.int k)) : Val (tChain (oCmp f) (oCmp g) ta tb tc) σ H (.bl (f i j && g j k)) := by
  intro Q q
  refine ha _ (hb _ ?_)
  refine ⟨f i j, rfl, ?_⟩
  cases e : f i j with
  | true =>
    rw [e, Bool.true_and] at q
    exact q_T (hc _ q)
  | false =>
    rw [e, Bool.false_and] at q
    exact q_F q
def IsNum (n : Int) : Prop := 0 ≤ n ∧ n ≤ 999
instance (n : Int) : Decidable (IsNum n) := inferInstanceAs (Decidable (0 ≤ n ∧ n ≤ 999))
def sp_check_number (_ : PySem.W.Frag) (A : Ad) : Sp := Sp1 fun x H Q E => ∃ n : Int, x = .int n ∧ (IsNum n → Q (.int n) H) ∧ (¬ IsNum n → ∀ d, H d = none → E (.ref A.c_BadNumber) (some d) (upd H d (.xd [("number", .int n)])))
def t_check_number (K : PySem.W.Frag) (A : Ad) (E : XK) : TS :=
  (tSeq (tIfS (tNot (tTest (tChain oLe oLe (tC (.int 0)) (tVar 0) (tC g_GREATEST_NUMBER))))
  (tRaiseE A.c_BadNumber "number" (fun cls d _ H => E cls d H) (tCons (tVar 0) tNil))
  tNext)
  (tRet (tVar 0)))
theorem pure_check_number {K : PySem.W.Frag} {A : Ad} {vs : List V} {H : Hp} {Q : VK} {E : XK} (h : sp_check_number K A vs H Q E) : t_check_number K A E { nx := fun _ H' => Q .non H', rt := Q } (start ["number"] vs) H := by
  obtain ⟨_, rfl, n, rfl, k1, k2⟩ := h
  unfold t_check_number
  refine q_seq (q_ifA (an_not (an_test (va_chain va_c (va_var rfl) va_c))) (fun e => ?_) (fun e => ?_))
  · have e' : ¬ IsNum n := fun z => by
      rw [decide_eq_true z.1, decide_eq_true z.2] at e
      cases e
    exact q_raise (q_cons (q_var rfl (q_nil ⟨_, rfl, fun d hd => k2 e' d hd⟩)))
  · have e' : IsNum n := by
      have z : (decide (0 ≤ n) && decide (n ≤ 999)) = true := by
        cases q : (decide (0 ≤ n) && decide (n ≤ 999)) with
        | true => rfl
        | false => rw [q] at e; cases e
      rw [Bool.and_eq_true] at z
      exact ⟨of_decide_eq_true z.1, of_decide_eq_true z.2⟩
    walk_at "rd"
    exact k1 e'

def outL (n : Int) : List V := if IsNum n then [.str "returned", .int n] else [.str "refused", .int n, .bl true, .bl false]
def outD (n : Int) : PyData := if IsNum n then .tuple [.str "returned", .int n] else .tuple [.str "refused", .int n, .bool true, .bool false]
def sp__law_outcome (_ : PySem.W.Frag) (_ : Ad) : Sp := Sp1 fun x H Q _ => ∃ n : Int, x = .int n ∧ ∀ p H', Same H H' → H' p = some (.tup (outL n)) → Q (.ref p) H'
def t__law_outcome (K : PySem.W.Frag) (A : Ad) : TS :=
  (fun D σ H => (fun W => (tRet (tTup (tCons (tC (.str "returned")) (tCons (tCallS (sp_check_number K A) (WE W) (tCons (tVar 0) tNil)) tNil))))) (wAs K (.ref A.c_BadNumber) 1 (fun a cls d => (tSeq (tAsg (tCB (rIsX K a cls d) (tCons (tVar 1) (tCons (tTup (tCons (tC (.ref A.c_BadAction)) (tCons (tC (.ref A.c_BadKind)) (tCons (tC (.ref A.c_BadName)) (tCons (tC (.ref A.c_BadStatement)) (tCons (tC (.ref A.c_TooLarge)) tNil)))))) tNil))) (gName 2))
  (tRet (tTup (tCons (tC (.str "refused")) (tCons (tXf a cls d A.c_BadNumber "number" (tVar 1)) (tCons (tAndV (tCB (rIsX K a cls d) (tCons (tVar 1) (tCons (tC (.ref A.c_DeedError)) tNil))) (tCB (rIsX K a cls d) (tCons (tVar 1) (tCons (tC (.ty "ValueError")) tNil)))) (tCons (tVar 2) tNil)))))))) (fun _ _ _ _ => False) D) D σ H)
theorem pure__law_outcome {K : PySem.W.Frag} {A : Ad} {vs : List V} {H : Hp} {Q : VK} {E : XK} (TX : Caught K A) (h : sp__law_outcome K A vs H Q E) : t__law_outcome K A { nx := fun _ H' => Q .non H', rt := Q } (start ["_law_number", "e", "_law_other"] vs) H := by
  obtain ⟨_, rfl, n, rfl, k⟩ := h
  unfold t__law_outcome
  refine q_ret (q_tup (q_cons (q_c ?_)))
  refine q_cons ?_
  refine q_cons (q_var rfl (q_nil ⟨_, rfl, n, rfl, fun e => ?_, fun e d hd => ?_⟩))
  · walk_at "rd"
    refine ⟨by show 2 ≤ sizeLine; decide, fun p hp => k p _ (same_new hp) ?_⟩
    rw [upd_same, outL, if_pos e]
  · refine ⟨true, TX.m_BadNumber, fun _ a ha => ?_, fun q => Bool.noConfusion q⟩
    refine q_seq (q_asg (q_cb (q_cons (q_var rfl (q_cons (q_tup ?_))))))
    walk_at "rd"
    refine ⟨by show 5 ≤ sizeLine; decide, fun t ht => ?_⟩
    have ndt : d ≠ t := fun z => by rw [← z, upd_same] at ht; cases ht
    have hdd : ∀ o, upd (upd H d (.xd [("number", .int n)])) t o d = some (.xd [("number", .int n)]) := fun o => by rw [upd_ne ndt, upd_same]
    refine q_nil ⟨_, d, _, rfl, rfl, hdd _, TX.x_BadNumber, .inr ⟨t, _, _, _, rfl, upd_same, .cons (.own _) (.cons (.own _) (.cons (.own _) (.cons (.own _) (.cons (.own _) .nil)))), TX.k_BadNumber__t_BadAction_BadKind_BadName_BadStatement_TooLarge, ?_⟩⟩
    walk_at "rd"
    refine q_tup (q_cons (q_c (q_cons ?_)))
    refine ⟨_, rfl, rfl, rfl, d, _, .int n, rfl, hdd _, by simp [List.lookup], ?_⟩
    refine q_cons (q_andV (q_cb (q_cons (q_var rfl (q_cons (q_c (q_nil ⟨_, d, _, rfl, rfl, hdd _, TX.x_BadNumber, .inl ⟨_, _, _, rfl, .own _, TX.k_BadNumber__DeedError, ?_⟩⟩)))))))
    refine ⟨true, rfl, q_T ?_⟩
    refine q_cb (q_cons (q_var rfl (q_cons (q_c (q_nil ⟨_, d, _, rfl, rfl, hdd _, TX.x_BadNumber, .inl ⟨_, _, _, rfl, .ty _, TX.k_BadNumber__ValueError, ?_⟩⟩)))))
    walk_at "rd"
    refine ⟨by show 4 ≤ sizeLine; decide, fun p hp => k p _ ?_ ?_⟩
    · exact ((same_new hd).trans (same_new ht)).trans (same_new hp)
    · rw [upd_same, outL, if_neg e]
theorem rp_out {H : Hp} {p : Addr} {n : Int} (h : H p = some (.tup (outL n))) : Rp H (.ref p) (outD n) := by
  unfold outL at h
  unfold outD
  by_cases e : IsNum n
  · rw [if_pos e] at h ⊢
    exact .tup h (by show 2 ≤ 1000000; decide) (.cons (.str _) (.cons (.int _) .nil))
  · rw [if_neg e] at h ⊢
    exact .tup h (by show 4 ≤ 1000000; decide) (.cons (.str _) (.cons (.int _) (.cons (.bl _) (.cons (.bl _) .nil))))
theorem dep_out (n : Int) : (outD n).depth < 6 := by
  unfold outD
  split <;> (simp [PyData.depth, PyData.depthAll])
def t_law (K : PySem.W.Frag) (A : Ad) : TS :=
  (tSeq (tAsg (tLst (tCons (tC (.int 0)) (tCons (tC (.int 999)) (tCons (tC (.int 1000)) (tCons (tUn oNeg (tC (.int 1))) (tCons (tC (.int 1)) (tCons (tC (.int 998)) tNil))))))) (gName 1))
  (tSeq (tFor (iAny K (tVar 0)) (gName 2)
  (tSeq (tAsg (tOp oMod (tCB cInt (tCons (tCB cAbs (tCons (tVar 2) tNil)) tNil)) (tOp oPow (tC (.int 10)) (tC (.int 63)))) (gName 4))
  (tAsg (tOp (oAdd K) (tVar 1) (tLst (tCons (tVar 4) (tCons (tOp oSub (tUn oNeg (tC (.int 1))) (tVar 4)) (tCons (tOp (oAdd K) (tC (.int 1000)) (tVar 4)) (tCons (tOp oMod (tCB cInt (tCons (tVar 4) tNil)) (tC (.int 1000))) (tCons (tOp oSub (tUn oNeg (tC (.int 1))) (tOp oMod (tCB cInt (tCons (tVar 4) tNil)) (tC (.int 1000)))) tNil))))))) (gName 1))))
  (tSeq (tFor (iAny K (tOp (oAdd K) (tVar 1) (tSl (oSl K) (tVar 1) tNoPart (tPart (tC (.int 4)))))) (gName 3)
  (tSeq (tAsg (tTup (tCons (tC (.str "refused")) (tCons (tVar 3) (tCons (tC (.bl true)) (tCons (tC (.bl false)) tNil))))) (gName 5))
  (tSeq (tIfS (tAnd (tTest (tOp oLe (tC (.int 0)) (tVar 3))) (tTest (tOp oLe (tVar 3) (tC (.int 999)))))
  (tAsg (tTup (tCons (tC (.str "returned")) (tCons (tVar 3) tNil))) (gName 5))
  tNext)
  (tIfS (tNot (tB (tCall (sp__law_same K A) [] E0 (tCons (tCall (sp__law_outcome K A) [] E0 (tCons (tVar 3) tNil)) (tCons (tVar 5) tNil)))))
  (tRet (tC (.bl false)))
  tNext))))
  (tRet (tC (.bl true))))))
theorem pure_law {K : PySem.W.Frag} {A : Ad} {vs : List V} {H : Hp} {Q : VK} {E : XK} (h : sp_law K A vs H Q E) : t_law K A { nx := fun _ H' => Q .non H', rt := Q } (start ["_law_script", "_law_numbers", "_law_cell", "_law_number", "_law_far", "_law_due"] vs) H := by
  obtain ⟨_, rfl, a, ns, rfl, hS, hlen, k⟩ := h
  unfold t_law
  refine q_seq (q_asg (q_lst ?_))
  walk_at "rd"
  refine ⟨by show 6 ≤ sizeLine; decide, fun p0 h0 => ?_⟩
  walk_at "rd"
  refine q_forL rfl (xs := ns.map V.int) (fun i σ H' => Same H H' ∧ ∃ (q : Addr) (ms : List Int) (v2 v3 v4 v5 : Option V), σ = [some (.ref a), some (.ref q), v2, v3, v4, v5] ∧ H' q = some (.lst (ms.map V.int)) ∧ ms.length = 6 + 5 * i)
    ⟨same_new h0, p0, [0, 999, 1000, -1, 1, 998], none, none, none, none, rfl, upd_same, rfl⟩ (fun _ _ _ _ ⟨s, _⟩ => s.seq hS) ?_ ?_
  · rintro i x σ H' hx ⟨s, q, ms, v2, v3, v4, v5, rfl, hq, hl⟩
    have hi : i < 63 := by
      have := (List.getElem?_eq_some_iff.mp hx).1
      rw [List.length_map] at this
      omega
    obtain ⟨z, rfl⟩ : ∃ z, x = V.int z := by
      rw [List.getElem?_map] at hx
      cases e : ns[i]? with
      | none => rw [e] at hx; cases hx
      | some z => rw [e] at hx; exact ⟨z, (Option.some.inj hx).symm⟩
    walk_at "rd"
    refine q_powI ⟨by decide, by decide, by decide⟩ ?_
    refine q_modI (by decide) ?_
    walk_at "rd"
    generalize (z.natAbs : Int) % 10 ^ (63 : Int).toNat = far
    refine q_lst ?_
    walk_at "rd"
    refine q_modI (by decide) ?_
    walk_at "rd"
    refine q_modI (by decide) ?_
    walk_at "rd"
    refine ⟨by show 5 ≤ sizeLine; decide, fun t ht => ?_⟩
    refine q_addL (same_new ht _ _ hq) upd_same (by rw [List.length_map, hl]; exact Nat.le_trans (show _ ≤ 1000 by show 6 + 5 * i + 5 ≤ 1000; omega) (by decide)) fun r hr => ?_
    refine q_name ⟨(s.trans (same_new ht)).trans (same_new hr), r, ms ++ [far, -1 - far, 1000 + far, far % 1000, -1 - far % 1000], _, _, _, _, rfl, ?_, by rw [List.length_append, hl]; show 6 + 5 * i + 5 = 6 + 5 * (i + 1); omega⟩
    rw [upd_same, List.map_append]
    rfl
  · rintro σ H' ⟨s, q, ms, v2, v3, v4, v5, rfl, hq, hl⟩
    have hl' : ms.length ≤ 321 := by
      rw [List.length_map] at hl
      omega
    refine q_seq (Or.inl ?_)
    show tOp _ _ _ _ _ _
    refine q_op (q_var rfl ?_)
    refine q_sl (q_var rfl (q_noPart (q_part (q_c (q_int ?_)))))
    refine Or.inl ⟨q, _, rfl, SqL.of hq, fun t ht => ?_⟩
    refine q_addL (same_new ht _ _ hq) upd_same ?_ fun r hr => ?_
    · unfold cutV
      rw [List.length_take, List.length_drop, List.length_map]
      exact Nat.le_trans (show _ ≤ 1000 by omega) (by decide)
    have sB := (s.trans (same_new (o := .lst (cutV (ms.map V.int) none (some 4))) ht)).trans (same_new (o := .lst (ms.map V.int ++ cutV (ms.map V.int) none (some 4))) hr)
    have hr' : upd (upd H' t (.lst (cutV (ms.map V.int) none (some 4)))) r (.lst (ms.map V.int ++ cutV (ms.map V.int) none (some 4))) r = some (.lst (ms.map V.int ++ cutV (ms.map V.int) none (some 4))) := upd_same
    have hall : ∀ x ∈ ms.map V.int ++ cutV (ms.map V.int) none (some 4), ∃ z, x = V.int z := fun x hx => by
      have hm : x ∈ ms.map V.int := by
        rcases List.mem_append.mp hx with hx | hx
        · exact hx
        · unfold cutV at hx
          exact List.mem_of_mem_drop (List.mem_of_mem_take hx)
      obtain ⟨z, _, e⟩ := List.mem_map.mp hm
      exact ⟨z, e.symm⟩
    generalize (ms.map V.int ++ cutV (ms.map V.int) none (some 4)) = xs at hr' hall sB ⊢
    generalize upd (upd H' t (.lst (cutV (ms.map V.int) none (some 4)))) r (.lst xs) = H2 at sB hr' ⊢
    refine ⟨r, rfl, ⟨_, SqL.of hr'⟩, for_list (K := K) (a := r) (xs := xs) (fun i σ H3 => Same H2 H3 ∧ ∃ v3 v4 v5 : Option V, σ = [some (.ref a), some (.ref q), v2, v3, v4, v5]) ⟨Same.refl _, _, _, _, rfl⟩ (fun _ _ _ _ ⟨s, _⟩ => SqL.of (s _ _ hr')) ?_ ?_⟩
    · rintro i x σ H3 hx ⟨s3, v3, v4, v5, rfl⟩
      obtain ⟨z, rfl⟩ := hall x (List.mem_of_getElem? hx)
      walk_at "rd"
      refine q_tup ?_
      walk_at "rd"
      refine ⟨by show 4 ≤ sizeLine; decide, fun t1 ht1 => ?_⟩
      refine q_name (q_seq ?_)
      -- the law's word of what is due
      have tail : ∀ (pd : Addr) (H4 : Hp), Same H3 H4 → H4 pd = some (.tup (outL z)) →
          (tIfS (tNot (tB (tCall (sp__law_same K A) [] E0 (tCons (tCall (sp__law_outcome K A) [] E0 (tCons (tVar 3) tNil)) (tCons (tVar 5) tNil)))))
  (tRet (tC (.bl false)))
  tNext) { nx := fun σ H' => Same H2 H' ∧ ∃ v3 v4 v5 : Option V, σ = [some (.ref a), some (.ref q), v2, v3, v4, v5], rt := Q, bk := tRet (tC (.bl true)) { nx := fun _ H' => Q .non H', rt := Q }, ct := fun σ H' => Same H2 H' ∧ ∃ v3 v4 v5 : Option V, σ = [some (.ref a), some (.ref q), v2, v3, v4, v5] }
            [some (.ref a), some (.ref q), v2, some (.int z), v4, some (.ref pd)] H4 := by
        intro pd H4 s4 hpd
        refine q_ifS (q_not (q_tB (q_call (q_cons (q_call (q_cons (q_var rfl (q_nil (s1 ⟨z, rfl, fun p5 H5 s5 hp5 => ?_⟩)))))))))
        refine q_cons (q_var rfl (q_nil (s2 ⟨outD z, rp_out hp5, rp_out (s5 _ _ hpd), dep_out z, ?_⟩)))
        refine ⟨true, rfl, q_F (q_next ⟨(s3.trans s4).trans s5, _, _, _, rfl⟩)⟩
      refine q_ifA (an_and (an_test (va_cmp va_c (va_var rfl))) fun _ => an_test (va_cmp (va_var rfl) va_c)) (fun e => ?_) (fun e => ?_)
      · have e' : IsNum z := by
          rw [Bool.and_eq_true] at e
          exact ⟨of_decide_eq_true e.1, of_decide_eq_true e.2⟩
        walk_at "rd"
        refine q_tup ?_
        refine q_cons (q_c (q_cons (q_var rfl (q_nil ⟨by show 2 ≤ sizeLine; decide, fun t2 ht2 => ?_⟩))))
        refine tail t2 _ ((same_new ht1).trans (same_new ht2)) ?_
        rw [upd_same, outL, if_pos e']
      · have e' : ¬ IsNum z := fun w => by
          rw [decide_eq_true w.1, decide_eq_true w.2] at e
          cases e
        refine tail t1 _ (same_new ht1) ?_
        rw [upd_same, outL, if_neg e']
    · rintro σ H3 ⟨s3, v3, v4, v5, rfl⟩
      walk_at "rd"
      exact k H3

end Ov

set_option Elab.async false
set_option linter.all false
set_option maxRecDepth 100000
namespace Ov
open PySem PySem.Spec PyProof.Rows L2
def topS (i : Nat) : Stmt := PySem.Challenge.pw_exitdeeds_k01_numbers.main.body.getD i (.Pass ⟨0, 0, 0, 0⟩)
abbrev s_check_number : Stmt := topS 10
theorem sc_check_number : FnScope ["number"] ["number"] (defScope s_check_number) := ⟨rfl, rfl, rfl, by decide +kernel, rfl, by decide +kernel, by decide +kernel⟩
abbrev s__law_outcome : Stmt := topS 13
theorem sc__law_outcome : FnScope ["_law_number", "e", "_law_other"] ["_law_number"] (defScope s__law_outcome) := ⟨rfl, rfl, rfl, by decide +kernel, rfl, by decide +kernel, by decide +kernel⟩
abbrev s__law_same : Stmt := topS 12
theorem sc__law_same : FnScope ["_law_actual", "_law_expected", "_law_k"] ["_law_actual", "_law_expected"] (defScope s__law_same) := ⟨rfl, rfl, rfl, by decide +kernel, rfl, by decide +kernel, by decide +kernel⟩
abbrev s_law : Stmt := topS 14
theorem sc_law : FnScope ["_law_script", "_law_numbers", "_law_cell", "_law_number", "_law_far", "_law_due"] ["_law_script"] (defScope s_law) := ⟨rfl, rfl, rfl, by decide +kernel, rfl, by decide +kernel, by decide +kernel⟩
theorem en_number : PySem.ExS.FnOk "number" := ⟨by decide, by decide, by decide, by decide⟩
structure Txt (P : Program) (K : PySem.W.Frag) (mg : Str → Option Value) (A : Ad) : Prop where
  n_ValueError : mg "ValueError" = none
  n_abs : mg "abs" = none
  n_bool : mg "bool" = none
  n_int : mg "int" = none
  n_isinstance : mg "isinstance" = none
  n_len : mg "len" = none
  n_list : mg "list" = none
  n_range : mg "range" = none
  n_str : mg "str" = none
  n_tuple : mg "tuple" = none
  g_GREATEST_NUMBER : ∃ u, mg "GREATEST_NUMBER" = some u ∧ RelV g_GREATEST_NUMBER u
  c_BadAction : mg "BadAction" = some (.ref A.c_BadAction)
  c_BadKind : mg "BadKind" = some (.ref A.c_BadKind)
  c_BadName : mg "BadName" = some (.ref A.c_BadName)
  c_BadNumber : mg "BadNumber" = some (.ref A.c_BadNumber)
  c_BadStatement : mg "BadStatement" = some (.ref A.c_BadStatement)
  c_DeedError : mg "DeedError" = some (.ref A.c_DeedError)
  c_TooLarge : mg "TooLarge" = some (.ref A.c_TooLarge)
  e_BadNumber : PySem.ExS.ETxt P K mg "BadNumber" "number" A.c_BadNumber A.i_BadNumber
section
variable {P : Program} {w : World} {K : PySem.W.Frag} {mg : Str → Option Value} {base : Heap} {A : Ad}
theorem ok_check_number (T : Txt P K mg A) (TX : Caught K A) (h : Has K mg "check_number" s_check_number ["number"]) : Cal P w K mg base (L2.CX P w) 1 "check_number" ["number"] (sp_check_number K A) := by
  refine h.okX (k := 0) sc_check_number (fun vs H Q E h => len1 h) fun f cdv A' outer s H vs Q E hr hsp => ⟨t_check_number K A E, ?_, pure_check_number hsp⟩
  unfold t_check_number
  exact (pss_cons (ps_if (pt_not (pt_chain op_oLe op_oLe pe_int (pv 0) (pe_gs rfl T.g_GREATEST_NUMBER)))
  (pss_one (ps_raiseE rfl T.e_BadNumber en_number hr (takes_of rfl rfl rfl rfl) (pa_cons (pv 0) pa_nil) rfl (by decide)))
  pss_nil)
  (pss_one (ps_ret (pv 0))))
theorem ok__law_outcome (T : Txt P K mg A) (TX : Caught K A) (h : Has K mg "_law_outcome" s__law_outcome ["_law_number"]) (c_check_number : Cal P w K mg base (L2.CX P w) 1 "check_number" ["number"] (sp_check_number K A)) : Cal P w K mg base CX0 2 "_law_outcome" ["_law_number"] (sp__law_outcome K A) := by
  refine h.ok (k := 1) sc__law_outcome (fun vs H Q E h => len1 h) fun f cdv A' outer s H vs Q E hr hsp => ⟨t__law_outcome K A, ?_, pure__law_outcome TX hsp⟩
  have hr_ : ∀ j, j ≤ 1 → Room j _ := fun j hj => hr.mono hj
  unfold t__law_outcome
  exact (pss_one (ps_try_as (i := 1) (c := .ref A.c_BadNumber) (tb := fun W => (tRet (tTup (tCons (tC (.str "returned")) (tCons (tCallS (sp_check_number K A) (WE W) (tCons (tVar 0) tNil)) tNil))))) (ts := (fun a cls d => (tSeq (tAsg (tCB (rIsX K a cls d) (tCons (tVar 1) (tCons (tTup (tCons (tC (.ref A.c_BadAction)) (tCons (tC (.ref A.c_BadKind)) (tCons (tC (.ref A.c_BadName)) (tCons (tC (.ref A.c_BadStatement)) (tCons (tC (.ref A.c_TooLarge)) tNil)))))) tNil))) (gName 2))
  (tRet (tTup (tCons (tC (.str "refused")) (tCons (tXf a cls d A.c_BadNumber "number" (tVar 1)) (tCons (tAndV (tCB (rIsX K a cls d) (tCons (tVar 1) (tCons (tC (.ref A.c_DeedError)) tNil))) (tCB (rIsX K a cls d) (tCons (tVar 1) (tCons (tC (.ty "ValueError")) tNil)))) (tCons (tVar 2) tNil))))))))) (Wout := (fun _ _ _ _ => False)) rfl rfl sc__law_outcome.nd rfl rfl ⟨rfl, by decide, Or.inl T.e_BadNumber.gC⟩ takes0 (fun W pn xe tk po => (pss_one (ps_ret (pe_tup (pa_cons pe_str (pa_cons (pe_fnS c_check_number (hr_ 1 (by decide)) tk rfl (pa_cons (pv 0) pa_nil)) pa_nil)))))) (fun a oe cls d pn hz hf => (pss_cons (ps_set (i := 2) sc__law_outcome.nd rfl (Or.inl rfl) (pe_callB (call_isX hz hf) rfl T.n_isinstance bi_isinstance (pa_cons (pv 1) (pa_cons (pe_tup (pa_cons (pe_glob (v := .ref A.c_BadAction) rfl T.c_BadAction rfl) (pa_cons (pe_glob (v := .ref A.c_BadKind) rfl T.c_BadKind rfl) (pa_cons (pe_glob (v := .ref A.c_BadName) rfl T.c_BadName rfl) (pa_cons (pe_glob (v := .ref A.c_BadStatement) rfl T.c_BadStatement rfl) (pa_cons (pe_glob (v := .ref A.c_TooLarge) rfl T.c_TooLarge rfl) pa_nil)))))) pa_nil))))
  (pss_one (ps_ret (pe_tup (pa_cons pe_str (pa_cons (pe_xf TX.xf_BadNumber T.e_BadNumber.noN hz hf (pv 1)) (pa_cons (pe_and (pe_callB (call_isX hz hf) rfl T.n_isinstance bi_isinstance (pa_cons (pv 1) (pa_cons (pe_glob (v := .ref A.c_DeedError) rfl T.c_DeedError rfl) pa_nil))) (pe_one (pe_callB (call_isX hz hf) rfl T.n_isinstance bi_isinstance (pa_cons (pv 1) (pa_cons (pe_bltn (v := .ty "ValueError") rfl T.n_ValueError bi_ValueError rfl) pa_nil))))) (pa_cons (pv 2) pa_nil)))))))))))
theorem rec__law_same (T : Txt P K mg A) (TX : Caught K A) (h : Has K mg "_law_same" s__law_same ["_law_actual", "_law_expected"]) : ∀ n, Cal P w K mg base CX0 (n + 1) "_law_same" ["_law_actual", "_law_expected"] (rec_law_same n)
  | 0 => h.void (fun _ _ _ _ z => no_law_same z)
  | n + 1 => by
    have c_rec := rec__law_same T TX h n
    refine h.ok (k := n + 1) sc__law_same (fun vs H Q E h => len2 h) fun f cdv A' outer s H vs Q E hr hsp => ⟨t__law_same K A (rec_law_same n), ?_, pure__law_same hsp⟩
    have hu_ := hu65 hr
    unfold t__law_same
    exact (pss_cons (ps_if (pt_cmpR op_oIsN (pv 1) pe_non (nomark _))
  (pss_one (ps_ret (pe_cmpR op_oIsN (pv 0) pe_non (nomark _))))
  pss_nil)
  (pss_cons (ps_if (pt_val (pe_callB call_cIsi rfl T.n_isinstance bi_isinstance (pa_cons (pv 1) (pa_cons (pe_bltn (v := .ty "bool") rfl T.n_bool bi_bool rfl) pa_nil))))
  (pss_one (ps_ret (pe_and (pe_callB call_cIsi rfl T.n_isinstance bi_isinstance (pa_cons (pv 0) (pa_cons (pe_bltn (v := .ty "bool") rfl T.n_bool bi_bool rfl) pa_nil))) (pe_one (pe_cmpR (op_oEq hu_) (pv 0) (pv 1) (nomark _))))))
  pss_nil)
  (pss_cons (ps_if (pt_val (pe_callB call_cIsi rfl T.n_isinstance bi_isinstance (pa_cons (pv 1) (pa_cons (pe_bltn (v := .ty "int") rfl T.n_int bi_int rfl) pa_nil))))
  (pss_one (ps_ret (pe_and (pe_callB call_cIsi rfl T.n_isinstance bi_isinstance (pa_cons (pv 0) (pa_cons (pe_bltn (v := .ty "int") rfl T.n_int bi_int rfl) pa_nil))) (pe_and (pe_not (pe_callB call_cIsi rfl T.n_isinstance bi_isinstance (pa_cons (pv 0) (pa_cons (pe_bltn (v := .ty "bool") rfl T.n_bool bi_bool rfl) pa_nil)))) (pe_one (pe_cmpR (op_oEq hu_) (pv 0) (pv 1) (nomark _)))))))
  pss_nil)
  (pss_cons (ps_if (pt_val (pe_callB call_cIsi rfl T.n_isinstance bi_isinstance (pa_cons (pv 1) (pa_cons (pe_bltn (v := .ty "str") rfl T.n_str bi_str rfl) pa_nil))))
  (pss_one (ps_ret (pe_and (pe_callB call_cIsi rfl T.n_isinstance bi_isinstance (pa_cons (pv 0) (pa_cons (pe_bltn (v := .ty "str") rfl T.n_str bi_str rfl) pa_nil))) (pe_one (pe_cmpR (op_oEq hu_) (pv 0) (pv 1) (nomark _))))))
  pss_nil)
  (pss_cons (ps_if (PW.pt (pw_and (pt_val (pe_callB call_cIsi rfl T.n_isinstance bi_isinstance (pa_cons (pv 1) (pa_cons (pe_bltn (v := .ty "tuple") rfl T.n_tuple bi_tuple rfl) pa_nil)))) (pw_and1 (pt_not (pt_val (pe_callB call_cIsi rfl T.n_isinstance bi_isinstance (pa_cons (pv 0) (pa_cons (pe_bltn (v := .ty "tuple") rfl T.n_tuple bi_tuple rfl) pa_nil))))))))
  (pss_one (ps_ret pe_bl))
  pss_nil)
  (pss_cons (ps_if (PW.pt (pw_and (pt_val (pe_callB call_cIsi rfl T.n_isinstance bi_isinstance (pa_cons (pv 1) (pa_cons (pe_bltn (v := .ty "list") rfl T.n_list bi_list rfl) pa_nil)))) (pw_and1 (pt_not (pt_val (pe_callB call_cIsi rfl T.n_isinstance bi_isinstance (pa_cons (pv 0) (pa_cons (pe_bltn (v := .ty "list") rfl T.n_list bi_list rfl) pa_nil))))))))
  (pss_one (ps_ret pe_bl))
  pss_nil)
  (pss_cons (ps_if (pt_cmpR (op_oNe hu_) (pe_callB call_cLen rfl T.n_len bi_len (pa_cons (pv 0) pa_nil)) (pe_callB call_cLen rfl T.n_len bi_len (pa_cons (pv 1) pa_nil)) (nomark _))
  (pss_one (ps_ret pe_bl))
  pss_nil)
  (pss_cons (ps_for PassesOwn.never rfl (pi_range1 rfl T.n_range (pa_cons (pe_callB call_cLen rfl T.n_len bi_len (pa_cons (pv 1) pa_nil)) pa_nil)) (pg_name (i := 2) sc__law_same.nd rfl (Or.inl rfl))
  (pss_one (ps_if (pt_not (pt_val (pe_fn c_rec hr rfl (pa_cons (pe_ix ix_oIx (pv 0) (pv 2) (fun _ _ => rfl)) (pa_cons (pe_ix ix_oIx (pv 1) (pv 2) (fun _ _ => rfl)) pa_nil)))))
  (pss_one (ps_ret pe_bl))
  pss_nil)))
  (pss_one (ps_ret pe_bl))))))))))
theorem ok__law_same (T : Txt P K mg A) (TX : Caught K A) (h : Has K mg "_law_same" s__law_same ["_law_actual", "_law_expected"]) : Cal P w K mg base CX0 7 "_law_same" ["_law_actual", "_law_expected"] (sp__law_same K A) := rec__law_same T TX h 6
theorem ok_law {f : Addr} {fd : FuncData} (F : Fun K "law" "law" s_law f fd) (T : Txt P K mg A) (TX : Caught K A) (c__law_same : Cal P w K mg base CX0 7 "_law_same" ["_law_actual", "_law_expected"] (sp__law_same K A)) (c__law_outcome : Cal P w K mg base CX0 2 "_law_outcome" ["_law_number"] (sp__law_outcome K A)) : FnOk P w K mg base CX0 8 f fd ["_law_script"] (sp_law K A) := by
  refine F.ok (k := 7) sc_law (fun vs H Q E h => len1 h) fun cdv A' outer s H vs Q E hr hsp => ⟨t_law K A, ?_, pure_law hsp⟩
  have hr_ : ∀ j, j ≤ 7 → Room j _ := fun j hj => hr.mono hj
  unfold t_law
  exact (pss_cons (ps_set (i := 1) sc_law.nd rfl (Or.inl rfl) (pe_lst (pa_cons pe_int (pa_cons pe_int (pa_cons pe_int (pa_cons (pe_un un_oNeg pe_int) (pa_cons pe_int (pa_cons pe_int pa_nil))))))))
  (pss_cons (ps_for PassesOwn.never rfl (pi_any (pv 0)) (pg_name (i := 2) sc_law.nd rfl (Or.inl rfl))
  (pss_cons (ps_set (i := 4) sc_law.nd rfl (Or.inl rfl) (pe_op op_oMod (pe_callTy call_cInt rfl T.n_int bi_int (pa_cons (pe_callB call_cAbs rfl T.n_abs bi_abs (pa_cons (pv 2) pa_nil)) pa_nil)) (pe_op op_oPow pe_int pe_int)))
  (pss_one (ps_set (i := 1) sc_law.nd rfl (Or.inl rfl) (pe_op op_oAdd (pv 1) (pe_lst (pa_cons (pv 4) (pa_cons (pe_op op_oSub (pe_un un_oNeg pe_int) (pv 4)) (pa_cons (pe_op op_oAdd pe_int (pv 4)) (pa_cons (pe_op op_oMod (pe_callTy call_cInt rfl T.n_int bi_int (pa_cons (pv 4) pa_nil)) pe_int) (pa_cons (pe_op op_oSub (pe_un un_oNeg pe_int) (pe_op op_oMod (pe_callTy call_cInt rfl T.n_int bi_int (pa_cons (pv 4) pa_nil)) pe_int)) pa_nil)))))))))))
  (pss_cons (ps_for PassesOwn.never rfl (pi_any (pe_op op_oAdd (pv 1) (pe_slice sl_oSl (pv 1) po_none (po_some pe_int)))) (pg_name (i := 3) sc_law.nd rfl (Or.inl rfl))
  (pss_cons (ps_set (i := 5) sc_law.nd rfl (Or.inl rfl) (pe_tup (pa_cons pe_str (pa_cons (pv 3) (pa_cons pe_bl (pa_cons pe_bl pa_nil))))))
  (pss_cons (ps_if (PW.pt (pw_and (pt_cmpR op_oLe pe_int (pv 3) (nomark _)) (pw_and1 (pt_cmpR op_oLe (pv 3) pe_int (nomark _)))))
  (pss_one (ps_set (i := 5) sc_law.nd rfl (Or.inl rfl) (pe_tup (pa_cons pe_str (pa_cons (pv 3) pa_nil)))))
  pss_nil)
  (pss_one (ps_if (pt_not (pt_val (pe_fn c__law_same (hr_ 7 (by decide)) rfl (pa_cons (pe_fn c__law_outcome (hr_ 2 (by decide)) rfl (pa_cons (pv 3) pa_nil)) (pa_cons (pv 5) pa_nil)))))
  (pss_one (ps_ret pe_bl))
  pss_nil)))))
  (pss_one (ps_ret pe_bl)))))
end
theorem all_law {P : Program} {w : World} {K : PySem.W.Frag} {mg : Str → Option Value} {A : Ad} {fa : Addr} (hfa : mg "law" = some (.ref fa)) (T : Txt P K mg A) (TX : Caught K A)
    (h_check_number : Has K mg "check_number" s_check_number ["number"])
    (h__law_outcome : Has K mg "_law_outcome" s__law_outcome ["_law_number"])
    (h__law_same : Has K mg "_law_same" s__law_same ["_law_actual", "_law_expected"])
    (h_law : Has K mg "law" s_law ["_law_script"])
    : ∃ fd : FuncData, (∀ (s : Shared) (u : Value), BindsTo s fd ⟨[u], []⟩ [("_law_script", u)]) ∧ ∀ base : Heap, K.In base → base.Ns mainGlobals mg → FnOk P w K mg base CX0 8 fa fd ["_law_script"] (sp_law K A) := by
  refine law_end h_law hfa fun base hi hn f fd F => ?_
  have c_check_number := ok_check_number (P := P) (w := w) (base := base) T TX h_check_number
  have c__law_outcome := ok__law_outcome (P := P) (w := w) (base := base) T TX h__law_outcome c_check_number
  have c__law_same := ok__law_same (P := P) (w := w) (base := base) T TX h__law_same
  exact ok_law F T TX c__law_same c__law_outcome
theorem all_mk {P : Program} {w : World} {K : PySem.W.Frag} {h : Heap} {mg : Str → Option Value} {fa : Addr} (X : K.In h) (G : h.Ns mainGlobals mg) (hfa : mg "law" = some (.ref fa))
    (n_ValueError : PySem.W.nsIn K mainGlobals "ValueError" = some none)
    (n_abs : PySem.W.nsIn K mainGlobals "abs" = some none)
    (n_bool : PySem.W.nsIn K mainGlobals "bool" = some none)
    (n_int : PySem.W.nsIn K mainGlobals "int" = some none)
    (n_isinstance : PySem.W.nsIn K mainGlobals "isinstance" = some none)
    (n_len : PySem.W.nsIn K mainGlobals "len" = some none)
    (n_list : PySem.W.nsIn K mainGlobals "list" = some none)
    (n_range : PySem.W.nsIn K mainGlobals "range" = some none)
    (n_str : PySem.W.nsIn K mainGlobals "str" = some none)
    (n_tuple : PySem.W.nsIn K mainGlobals "tuple" = some none)
    {u_GREATEST_NUMBER : Value}
    (z_GREATEST_NUMBER : PySem.W.nsIn K mainGlobals "GREATEST_NUMBER" = some (some u_GREATEST_NUMBER))
    (r_GREATEST_NUMBER : L2.RelV Ov.g_GREATEST_NUMBER u_GREATEST_NUMBER)
    {c_BadAction : Addr}
    (a_BadAction : PySem.W.nsIn K mainGlobals "BadAction" = some (some (.ref c_BadAction)))
    {c_BadKind : Addr}
    (a_BadKind : PySem.W.nsIn K mainGlobals "BadKind" = some (some (.ref c_BadKind)))
    {c_BadName : Addr}
    (a_BadName : PySem.W.nsIn K mainGlobals "BadName" = some (some (.ref c_BadName)))
    {c_BadNumber : Addr}
    (a_BadNumber : PySem.W.nsIn K mainGlobals "BadNumber" = some (some (.ref c_BadNumber)))
    {c_BadStatement : Addr}
    (a_BadStatement : PySem.W.nsIn K mainGlobals "BadStatement" = some (some (.ref c_BadStatement)))
    {c_DeedError : Addr}
    (a_DeedError : PySem.W.nsIn K mainGlobals "DeedError" = some (some (.ref c_DeedError)))
    {c_TooLarge : Addr}
    (a_TooLarge : PySem.W.nsIn K mainGlobals "TooLarge" = some (some (.ref c_TooLarge)))
    (opq : PySem.W.nsIn K cStatics "thirdparty.any" = some none)
    (sup : PySem.W.nsIn K mainGlobals "super" = some none)
    (top : (P.main.scope.names.lookup ("super" : Str)).isSome = false)
    {i_BadNumber : Addr} {nm_BadNumber qn_BadNumber : Str} {N_BadNumber : Addr} {bs_BadNumber bm_BadNumber : List Value} {sn_BadNumber : List Str} {sub_BadNumber : List Value} {ab_BadNumber : Bool} {col_BadNumber : Option Bool} {dd_BadNumber : Option Addr} {k0_BadNumber k1_BadNumber k2_BadNumber k3_BadNumber k5_BadNumber : Option Value}
    (x_BadNumber : K.lookup c_BadNumber = some (excClassObj nm_BadNumber qn_BadNumber c_BadNumber N_BadNumber bs_BadNumber bm_BadNumber true sn_BadNumber sub_BadNumber ab_BadNumber col_BadNumber dd_BadNumber k0_BadNumber k1_BadNumber k2_BadNumber k3_BadNumber k5_BadNumber "ValueError.__new__"))
    (ve_BadNumber : PySem.HandSPX.refsVE bm_BadNumber = true)
    (al_BadNumber : PySem.W.ks_superIn K c_BadNumber c_BadNumber "__init__" = some (some (.builtin "ValueError.__init__")))
    (sa_BadNumber : PySem.W.findIn K (.ref c_BadNumber) "__setattr__" = some (some (.builtin "object.__setattr__")))
    (no_BadNumber : PySem.W.findIn K (.ref c_BadNumber) "number" = some none)
    (in_BadNumber : PySem.W.findIn K (.ref c_BadNumber) "__init__" = some (some (.ref i_BadNumber)))
    (ti_BadNumber : PySem.W.typeIn K (.ref i_BadNumber) = some (.type "function"))
    (kc_BadNumber : PySem.W.keepIn K (.ref c_BadNumber) = true)
    (ex_BadNumber : PySem.W.subIn K (.ref c_BadNumber) (.type "BaseException") = some true)
    (vc_BadNumber : PySem.W.subIn K (.ref c_BadNumber) (.type "ValueError") = some true)
    (sl_BadNumber : PySem.W.mroIn K c_BadNumber (.ref c_BadNumber) = some true)
    (ty_BadNumber : PySem.W.typeIn K (.ref c_BadNumber) = some (.type "type"))
    {ocx_BadNumber docx_BadNumber pmx_BadNumber ctx_BadNumber cclx_BadNumber clx_BadNumber : Value} {odx_BadNumber anx_BadNumber cddx_BadNumber cldx_BadNumber : Option Addr} {cdax_BadNumber ccx_BadNumber : Addr} {oslx_BadNumber ccsx_BadNumber cslx_BadNumber : Array (Option Value)} {vsx_BadNumber : Array Value} {filex_BadNumber : Str} {tfx_BadNumber : Tok}
    (li_BadNumber : K.lookup i_BadNumber = some ⟨ocx_BadNumber, odx_BadNumber, .func (PySem.W.ksFn "__init__" "BadNumber.__init__" (defArgs (inClass (topS 3) 0)) (defBody (inClass (topS 3) 0)) (defScope (inClass (topS 3) 0)) .none .none docx_BadNumber pmx_BadNumber anx_BadNumber (.ref cdax_BadNumber) ctx_BadNumber ccx_BadNumber), oslx_BadNumber⟩)
    (ci_BadNumber : PySem.W.codeIn K (.ref cdax_BadNumber) "BadNumber.__init__" = true)
    (cd_BadNumber : K.lookup cdax_BadNumber = some ⟨cclx_BadNumber, cddx_BadNumber, .fields vsx_BadNumber, ccsx_BadNumber⟩)
    (fv_BadNumber : vsx_BadNumber[2]? = some (.str filex_BadNumber tfx_BadNumber))
    (fl_BadNumber : ((P.main.file : Str) == filex_BadNumber) = true)
    (ce_BadNumber : K.lookup ccx_BadNumber = some ⟨clx_BadNumber, cldx_BadNumber, .cell (some (.ref c_BadNumber)), cslx_BadNumber⟩)
    (sp : PySem.W.specialIn K (.builtin "object.__class__") "__get__" = some (some (.builtin "getset_descriptor.__get__")))
    (tk : PySem.W.takesIn K (.builtin "object.__class__") = some true)
    (ga_BadNumber : PySem.W.findIn K (.ref c_BadNumber) "__getattribute__" = some (some (.builtin "BaseException.__getattribute__")))
    (gg_BadNumber : PySem.W.findIn K (.ref c_BadNumber) "__getattr__" = some none)
    (hd_BadNumber : PySem.W.hasDictIn K c_BadNumber = true)
    (cl_BadNumber : PySem.W.findIn K (.ref c_BadNumber) "__class__" = some (some (.builtin "object.__class__")))
    (ob_BadNumber : PySem.W.mroIn K c_BadNumber (.type "object") = some true)
    (se_BadNumber : PySem.W.subIn K (.ref c_BadNumber) (.ref c_BadNumber) = some true)
    (k_BadNumber__t_BadAction_BadKind_BadName_BadStatement_TooLarge : PySem.W.kitAny K (.ref c_BadNumber) [.ref c_BadAction, .ref c_BadKind, .ref c_BadName, .ref c_BadStatement, .ref c_TooLarge] = some false)
    (k_BadNumber__DeedError : PySem.W.kitOne K (.ref c_BadNumber) (.ref c_DeedError) = some true)
    (k_BadNumber__ValueError : PySem.W.kitOne K (.ref c_BadNumber) (.type "ValueError") = some true)
    {f0 : Addr} {oc0 : Value} {od0 an0 : Option Addr} {sl0 : Array (Option Value)} {kV0 dc0 pm0 cd0 ct0 : Value}
    (a0 : PySem.W.nsIn K mainGlobals "check_number" = some (some (.ref f0)))
    (l0 : K.lookup f0 = some ⟨oc0, od0, .func (PySem.W.fnOf "check_number" "check_number" (defArgs s_check_number) (defBody s_check_number) (defScope s_check_number) .none kV0 dc0 pm0 an0 cd0 ct0), sl0⟩)
    (c0 : PySem.W.codeIn K cd0 "check_number" = true)
    (k0 : PySem.W.keepIn K (.ref f0) = true)
    {f1 : Addr} {oc1 : Value} {od1 an1 : Option Addr} {sl1 : Array (Option Value)} {kV1 dc1 pm1 cd1 ct1 : Value}
    (a1 : PySem.W.nsIn K mainGlobals "_law_outcome" = some (some (.ref f1)))
    (l1 : K.lookup f1 = some ⟨oc1, od1, .func (PySem.W.fnOf "_law_outcome" "_law_outcome" (defArgs s__law_outcome) (defBody s__law_outcome) (defScope s__law_outcome) .none kV1 dc1 pm1 an1 cd1 ct1), sl1⟩)
    (c1 : PySem.W.codeIn K cd1 "_law_outcome" = true)
    (k1 : PySem.W.keepIn K (.ref f1) = true)
    {f2 : Addr} {oc2 : Value} {od2 an2 : Option Addr} {sl2 : Array (Option Value)} {kV2 dc2 pm2 cd2 ct2 : Value}
    (a2 : PySem.W.nsIn K mainGlobals "_law_same" = some (some (.ref f2)))
    (l2 : K.lookup f2 = some ⟨oc2, od2, .func (PySem.W.fnOf "_law_same" "_law_same" (defArgs s__law_same) (defBody s__law_same) (defScope s__law_same) .none kV2 dc2 pm2 an2 cd2 ct2), sl2⟩)
    (c2 : PySem.W.codeIn K cd2 "_law_same" = true)
    (k2 : PySem.W.keepIn K (.ref f2) = true)
    {f3 : Addr} {oc3 : Value} {od3 an3 : Option Addr} {sl3 : Array (Option Value)} {kV3 dc3 pm3 cd3 ct3 : Value}
    (a3 : PySem.W.nsIn K mainGlobals "law" = some (some (.ref f3)))
    (l3 : K.lookup f3 = some ⟨oc3, od3, .func (PySem.W.fnOf "law" "law" (defArgs s_law) (defBody s_law) (defScope s_law) .none kV3 dc3 pm3 an3 cd3 ct3), sl3⟩)
    (c3 : PySem.W.codeIn K cd3 "law" = true)
    (k3 : PySem.W.keepIn K (.ref f3) = true)
    : ∃ fd : FuncData, (∀ (s : Shared) (u : Value), BindsTo s fd ⟨[u], []⟩ [("_law_script", u)]) ∧ ∀ base : Heap, K.In base → base.Ns mainGlobals mg → FnOk P w K mg base CX0 8 fa fd ["_law_script"] (spLaw K) := by
  have T : Txt P K mg (⟨c_BadAction, c_BadKind, c_BadName, c_BadNumber, c_BadStatement, c_DeedError, c_TooLarge, i_BadNumber⟩ : Ad) := ⟨PySem.W.mg_none_of X G n_ValueError, PySem.W.mg_none_of X G n_abs, PySem.W.mg_none_of X G n_bool, PySem.W.mg_none_of X G n_int, PySem.W.mg_none_of X G n_isinstance, PySem.W.mg_none_of X G n_len, PySem.W.mg_none_of X G n_list, PySem.W.mg_none_of X G n_range, PySem.W.mg_none_of X G n_str, PySem.W.mg_none_of X G n_tuple, ⟨_, PySem.W.mg_of X G z_GREATEST_NUMBER, r_GREATEST_NUMBER⟩, PySem.W.mg_of X G a_BadAction, PySem.W.mg_of X G a_BadKind, PySem.W.mg_of X G a_BadName, PySem.W.mg_of X G a_BadNumber, PySem.W.mg_of X G a_BadStatement, PySem.W.mg_of X G a_DeedError, PySem.W.mg_of X G a_TooLarge, { gC := PySem.W.mg_of X G a_BadNumber, cls := ⟨_, _, _, _, _, _, _, _, _, _, _, _, _, _, _, x_BadNumber, ve_BadNumber⟩, alo := al_BadNumber, sa := sa_BadNumber, noN := no_BadNumber, iC := in_BadNumber, tC := ti_BadNumber, kC := kc_BadNumber, exC := ex_BadNumber, veC := vc_BadNumber, slf := sl_BadNumber, tyC := ty_BadNumber, opq := opq, sup := PySem.W.mg_none_of X G sup, top := top, fun_ := ⟨_, _, _, _, _, _, _, _, _, _, _, _, _, _, _, _, _, _, _, _, _, _, _, _, _, _, _, _, _, _, _, _, _, _, _, _, li_BadNumber, ci_BadNumber, rfl, rfl, rfl, fun _ _ => rfl, ⟨_, fun _ => rfl⟩, fun _ => rfl, fun _ => rfl, cd_BadNumber, fv_BadNumber, fl_BadNumber, ce_BadNumber⟩ }⟩
  have TX : Caught K (⟨c_BadAction, c_BadKind, c_BadName, c_BadNumber, c_BadStatement, c_DeedError, c_TooLarge, i_BadNumber⟩ : Ad) := ⟨⟨ga_BadNumber, gg_BadNumber, ex_BadNumber, hd_BadNumber⟩, ⟨ga_BadNumber, gg_BadNumber, ex_BadNumber, hd_BadNumber, cl_BadNumber, sp, tk, ob_BadNumber⟩, PySem.W.exm_ref ex_BadNumber hd_BadNumber ty_BadNumber se_BadNumber, k_BadNumber__t_BadAction_BadKind_BadName_BadStatement_TooLarge, k_BadNumber__DeedError, k_BadNumber__ValueError⟩
  have h_check_number : Has K mg "check_number" s_check_number ["number"] := has_mk X G a0 l0 c0 k0 fun _ _ _ _ _ _ us hl => match us, hl with | [_], _ => rfl
  have h__law_outcome : Has K mg "_law_outcome" s__law_outcome ["_law_number"] := has_mk X G a1 l1 c1 k1 fun _ _ _ _ _ _ us hl => match us, hl with | [_], _ => rfl
  have h__law_same : Has K mg "_law_same" s__law_same ["_law_actual", "_law_expected"] := has_mk X G a2 l2 c2 k2 fun _ _ _ _ _ _ us hl => match us, hl with | [_, _], _ => rfl
  have h_law : Has K mg "law" s_law ["_law_script"] := has_mk X G a3 l3 c3 k3 fun _ _ _ _ _ _ us hl => match us, hl with | [_], _ => rfl
  exact all_law hfa T TX h_check_number h__law_outcome h__law_same h_law
end Ov
open PySem PySem.W PyProof.Rows
set_option maxRecDepth 100000 in
set_option maxHeartbeats 0 in
theorem PySem.Challenge.cw_exitdeeds_k01_numbers_holds : PySem.Challenge.rw_exitdeeds_k01_numbers.Holds := by
  w_on; o_law; k_head; (case hw => w_witness2)
  k_fill
  refine L2.walk_ofK (l := PySem.Challenge.rw_exitdeeds_k01_numbers) (n := 63) (k := 8) (x := "_law_script") (CX := L2.CX0) (sp := Ov.spLaw) rfl (by decide) rfl ⟨rfl, by decide, by decide⟩ (fun w h Y => PySem.W.kIn_of Y) ?F Ov.law_start fun _ _ _ _ z => z
  case F =>
    intro w mg fa h KX G hmg
    refine' Ov.all_mk KX G hmg ?n_ValueError ?n_abs ?n_bool ?n_int ?n_isinstance ?n_len ?n_list ?n_range ?n_str ?n_tuple ?z_GREATEST_NUMBER ?r_GREATEST_NUMBER ?a_BadAction ?a_BadKind ?a_BadName ?a_BadNumber ?a_BadStatement ?a_DeedError ?a_TooLarge ?opq ?sup ?top ?x_BadNumber ?ve_BadNumber ?al_BadNumber ?sa_BadNumber ?no_BadNumber ?in_BadNumber ?ti_BadNumber ?kc_BadNumber ?ex_BadNumber ?vc_BadNumber ?sl_BadNumber ?ty_BadNumber ?li_BadNumber ?ci_BadNumber ?cd_BadNumber ?fv_BadNumber ?fl_BadNumber ?ce_BadNumber ?sp ?tk ?ga_BadNumber ?gg_BadNumber ?hd_BadNumber ?cl_BadNumber ?ob_BadNumber ?se_BadNumber ?k_BadNumber__t_BadAction_BadKind_BadName_BadStatement_TooLarge ?k_BadNumber__DeedError ?k_BadNumber__ValueError ?a0 ?l0 ?c0 ?k0 ?a1 ?l1 ?c1 ?k1 ?a2 ?l2 ?c2 ?k2 ?a3 ?l3 ?c3 ?k3
    (case n_ValueError => k_is)
    (case n_abs => k_is)
    (case n_bool => k_is)
    (case n_int => k_is)
    (case n_isinstance => k_is)
    (case n_len => k_is)
    (case n_list => k_is)
    (case n_range => k_is)
    (case n_str => k_is)
    (case n_tuple => k_is)
    (case z_GREATEST_NUMBER => k_is)
    (case r_GREATEST_NUMBER => exact ⟨_, rfl⟩)
    (case a_BadAction => k_is)
    (case a_BadKind => k_is)
    (case a_BadName => k_is)
    (case a_BadNumber => k_is)
    (case a_BadStatement => k_is)
    (case a_DeedError => k_is)
    (case a_TooLarge => k_is)
    (case opq => k_is)
    (case sup => k_is)
    (case top => decide +kernel)
    (case x_BadNumber => k_is)
    (case ve_BadNumber => decide +kernel)
    (case al_BadNumber => ks_is)
    (case sa_BadNumber => k_is)
    (case no_BadNumber => k_is)
    (case in_BadNumber => k_is)
    (case ti_BadNumber => k_is)
    (case kc_BadNumber => k_is)
    (case ex_BadNumber => k_is)
    (case vc_BadNumber => k_is)
    (case sl_BadNumber => k_is)
    (case ty_BadNumber => k_is)
    (case li_BadNumber => k_is)
    (case ci_BadNumber => k_is)
    (case cd_BadNumber => k_is)
    (case fv_BadNumber => rfl)
    (case fl_BadNumber => first | rfl | decide +kernel)
    (case ce_BadNumber => k_is)
    (case sp => k_is)
    (case tk => k_is)
    (case ga_BadNumber => k_is)
    (case gg_BadNumber => k_is)
    (case hd_BadNumber => k_is)
    (case cl_BadNumber => k_is)
    (case ob_BadNumber => k_is)
    (case se_BadNumber => k_is)
    (case k_BadNumber__t_BadAction_BadKind_BadName_BadStatement_TooLarge => kit_is)
    (case k_BadNumber__DeedError => kit_is)
    (case k_BadNumber__ValueError => kit_is)
    (case a0 => k_is)
    (case l0 => k_is)
    (case c0 => k_is)
    (case k0 => k_is)
    (case a1 => k_is)
    (case l1 => k_is)
    (case c1 => k_is)
    (case k1 => k_is)
    (case a2 => k_is)
    (case l2 => k_is)
    (case c2 => k_is)
    (case k2 => k_is)
    (case a3 => k_is)
    (case l3 => k_is)
    (case c3 => k_is)
    (case k3 => k_is)
#print axioms PySem.Challenge.cw_exitdeeds_k01_numbers_holds

