import PyProof.Rows.All
import Wide.All
import OpenK.AllK
import Wide.FinOn
import HandS.ForMost
import HandS.Exc
import HandS.TryOnly
import HandS.WordsExc
import HandS.WordsList
import HandS.Wide
import HandS.IsInst
import HandS.SetIn
import HandS.Deep
import PySem.Challenge.RW_exitdeeds_k02_pending_exit
set_option Elab.async false
set_option linter.all false
set_option maxRecDepth 100000
namespace Ov
open PySem PySem.Spec PyProof.Rows L2

/-! ### a def that may be called -/
/-- the def called x keeps sp -/
def Cal (P : Program) (w : World) (K : PySem.W.Frag) (mg : Str → Option Value) (base : Heap) (CX : CXT) (k : Nat) (x : Str) (ps : List Str) (sp : Sp) : Prop :=
  ∃ (f : Addr) (fd : FuncData), FnOk P w K mg base CX k f fd ps sp ∧ mg x = some (.ref f) ∧ PySem.W.keepIn K (.ref f) = true ∧ Binds K fd ps []
/-- the def called x stands in the text -/
def Has (K : PySem.W.Frag) (mg : Str → Option Value) (x : Str) (st : Stmt) (ps : List Str) : Prop :=
  ∃ (f : Addr) (fd : FuncData), Fun K x x st f fd ∧ mg x = some (.ref f) ∧ ∀ us : List Value, us.length = ps.length → bindArgs fd ⟨us, []⟩ = pure (ps.zip us)
section
variable {P : Program} {w : World} {K : PySem.W.Frag} {mg : Str → Option Value} {base : Heap} {CX : CXT}
theorem Cal.mono {j k : Nat} {x : Str} {ps : List Str} {sp : Sp} (c : Cal P w K mg base CX j x ps sp) (h : j ≤ k) : Cal P w K mg base CX k x ps sp := by
  obtain ⟨f, fd, F, m, kp, b⟩ := c
  exact ⟨f, fd, F.mono h, m, kp, b⟩
theorem Cal.imp {k : Nat} {x : Str} {ps : List Str} {sp sp' : Sp} (c : Cal P w K mg base CX k x ps sp) (h : ∀ vs H Q E, sp' vs H Q E → sp vs H Q E) : Cal P w K mg base CX k x ps sp' := by
  obtain ⟨f, fd, F, m, kp, b⟩ := c
  exact ⟨f, fd, F.imp h, m, kp, b⟩
theorem Has.ok {x : Str} {st : Stmt} {N ps : List Str} {k : Nat} {sp : Sp} (h : Has K mg x st ps) (S : FnScope N ps (defScope st)) (len : ∀ vs H Q E, sp vs H Q E → vs.length = ps.length)
    (hbody : ∀ (f : Addr) (cdv : Value) (A : Around) (outer : List Env) (s : Shared) (H : Hp) (vs : List V) (Q : VK) (E : XK), Room k (A.deeper (envOfC x (defScope st) s.heap.objs.size f cdv)) → sp vs H Q E →
      ∃ t, PSs (cxOf CX0 P w K mg base N x (defScope st) f cdv A outer s H E).nox (defBody st) t ∧ t { nx := fun _ H' => Q .non H', rt := Q } (start N vs) H) : Cal P w K mg base CX0 (k + 1) x ps sp := by
  obtain ⟨f, fd, F, m, b⟩ := h
  exact ⟨f, fd, F.ok S len (fun cdv A outer s H vs Q E hr h => hbody f cdv A outer s H vs Q E hr h), m, F.kp, .all b⟩
theorem Has.okX {x : Str} {st : Stmt} {N ps : List Str} {k : Nat} {sp : Sp} (h : Has K mg x st ps) (S : FnScope N ps (defScope st)) (len : ∀ vs H Q E, sp vs H Q E → vs.length = ps.length)
    (hbody : ∀ (f : Addr) (cdv : Value) (A : Around) (outer : List Env) (s : Shared) (H : Hp) (vs : List V) (Q : VK) (E : XK), Room k (A.deeper (envOfC x (defScope st) s.heap.objs.size f cdv)) → sp vs H Q E →
      ∃ t, PSs (cxOf (L2.CX P w) P w K mg base N x (defScope st) f cdv A outer s H E) (defBody st) t ∧ t { nx := fun _ H' => Q .non H', rt := Q } (start N vs) H) : Cal P w K mg base (L2.CX P w) (k + 1) x ps sp := by
  obtain ⟨f, fd, F, m, b⟩ := h
  exact ⟨f, fd, F.okX S len (fun cdv A outer s H vs Q E hr h => hbody f cdv A outer s H vs Q E hr h), m, F.kp, .all b⟩
end
/-- a promise that asks for what cannot be -/
theorem Has.void {P : Program} {w : World} {K : PySem.W.Frag} {mg : Str → Option Value} {base : Heap} {CX : CXT} {k : Nat} {x : Str} {st : Stmt} {ps : List Str} {sp : Sp} (h : Has K mg x st ps) (no : ∀ vs H Q E, ¬ sp vs H Q E) : Cal P w K mg base CX k x ps sp := by
  obtain ⟨f, fd, F, m, b⟩ := h
  exact ⟨f, fd, ⟨fun vs H Q E h => (no _ _ _ _ h).elim, fun A outer s H args us vs Q E hr he hb hv hs => (no _ _ _ _ hs).elim⟩, m, F.kp, .all b⟩
theorem has_mk {K : PySem.W.Frag} {h : Heap} {mg : Str → Option Value} (X : K.In h) (G : h.Ns mainGlobals mg) {x : Str} {st : Stmt} {ps : List Str} {f : Addr} {oc : Value} {od an : Option Addr} {osl : Array (Option Value)} {kV doc pm cdv ct : Value}
    (a : PySem.W.nsIn K mainGlobals x = some (some (.ref f))) (l : K.lookup f = some ⟨oc, od, .func (PySem.W.fnOf x x (defArgs st) (defBody st) (defScope st) .none kV doc pm an cdv ct), osl⟩)
    (c : PySem.W.codeIn K cdv x = true) (k : PySem.W.keepIn K (.ref f) = true)
    (hb : ∀ (kV doc pm : Value) (an : Option Addr) (cdv ct : Value) (us : List Value), us.length = ps.length → bindArgs (PySem.W.fnOf x x (defArgs st) (defBody st) (defScope st) .none kV doc pm an cdv ct) ⟨us, []⟩ = pure (ps.zip us)) : Has K mg x st ps :=
  ⟨f, _, fun_mk l c k, PySem.W.mg_of X G a, hb kV doc pm an cdv ct⟩
/-- the law itself -/
theorem law_end {P : Program} {w : World} {K : PySem.W.Frag} {mg : Str → Option Value} {k : Nat} {st : Stmt} {x y : Str} {sp : Sp} {CX : CXT} {fa : Addr} (h : Has K mg x st [y]) (hfa : mg x = some (.ref fa))
    (F : ∀ base : Heap, K.In base → base.Ns mainGlobals mg → ∀ (f : Addr) (fd : FuncData), Fun K x x st f fd → FnOk P w K mg base CX k f fd [y] sp) :
    ∃ fd : FuncData, (∀ (s : Shared) (u : Value), BindsTo s fd ⟨[u], []⟩ [(y, u)]) ∧ ∀ base : Heap, K.In base → base.Ns mainGlobals mg → FnOk P w K mg base CX k fa fd [y] sp := by
  obtain ⟨f, fd, Fu, m, b⟩ := h
  have e : fa = f := Value.ref.inj (Option.some.inj (hfa.symm.trans m))
  subst e
  exact ⟨fd, fun s u => .of_eq (b [u] rfl), fun base hi hn => F base hi hn _ fd Fu⟩
section
variable {X : Cx} {k : Nat} {x : Str} {ps : List Str} {sp : Sp} {p pos : Pos} {e : Expr} {es : List Expr} {t : TA}
theorem pe_fn (c : Cal X.prog X.w X.K X.mg X.base CX0 k x ps sp) (hr : Room k X.A) (hg : Gl X x) (ha : PA X (e :: es) t) (hdb : (x == ("__debug__" : Str)) = false := by decide)
    (he : starEach (e :: es) X.env = (false, eval e X.env) :: starEach es X.env := by rfl) (hpl : (backTo pos (starEach es X.env)).any (·.1) = false := by rfl) : PE X (.Call (.Name x p) (e :: es) [] pos) (tCall sp [] E0 t) := by
  obtain ⟨f, fd, F, m, kp, b⟩ := c
  exact pe_call F hr hg m kp b .nil pass0 ha hdb he hpl
theorem pe_fn0 (c : Cal X.prog X.w X.K X.mg X.base CX0 k x ps sp) (hr : Room k X.A) (hg : Gl X x) (hdb : (x == ("__debug__" : Str)) = false := by decide) : PE X (.Call (.Name x p) [] [] pos) (tCall sp [] E0 tNil) := by
  obtain ⟨f, fd, F, m, kp, b⟩ := c
  exact pe_call0 F hr hg m kp b .nil pass0 hdb
end

/-! ### operators by what they meet -/
theorem OpR.or {X : Cx} {f : Value → Value → Sem Value} {r r' : R2} (a : OpR X f r) (b : OpR X f r') : OpR X f (fun x y H Q => r x y H Q ∨ r' x y H Q) := by
  intro pins s σ H x y v u Q I rx ry h
  rcases h with h | h
  · exact a pins s σ H x y v u Q I rx ry h
  · exact b pins s σ H x y v u Q I rx ry h
theorem OpR.of {X : Cx} {f : Value → Value → Sem Value} {r r' : R2} (a : OpR X f r) (h : ∀ x y H Q, r' x y H Q → r x y H Q) : OpR X f r' := by
  intro pins s σ H x y v u Q I rx ry q
  exact a pins s σ H x y v u Q I rx ry (h _ _ _ _ q)

/-- + : two ints, two texts, two lists, two tuples -/
def oAdd (K : PySem.W.Frag) : R2 := fun x y H Q => match x, y with
  | .int i, .int j => Q (.int (i + j)) H
  | .str a, .str b => a.length + b.length ≤ sizeLine ∧ Q (.str (a ++ b)) H
  | .ref p, .ref q => rCat (.ref p) (.ref q) H Q ∨ rCatT K (.ref p) (.ref q) H Q
  | _, _ => False
theorem op_oAdd {X : Cx} : OpR X (binaryOp .Add) (oAdd X.K) := by
  refine OpR.of (OpR.or op_add (OpR.or op_add_str (OpR.or op_cat op_catT))) fun x y H Q h => ?_
  unfold oAdd at h
  split at h
  · exact .inl ⟨_, _, rfl, rfl, h⟩
  · exact .inr (.inl ⟨_, _, rfl, rfl, h.1, h.2⟩)
  · rcases h with h | h
    · exact .inr (.inr (.inl h))
    · exact .inr (.inr (.inr h))
  · exact h.elim
def oSub : R2 := fun x y H Q => match x, y with
  | .int i, .int j => Q (.int (i - j)) H
  | _, _ => False
theorem op_oSub {X : Cx} : OpR X (binaryOp .Sub) oSub := by
  refine OpR.of op_sub fun x y H Q h => ?_
  unfold oSub at h
  split at h
  · exact ⟨_, _, rfl, rfl, h⟩
  · exact h.elim
theorem op_mul_str {X : Cx} : OpR X (binaryOp .Mult) (fun x y H Q => ∃ z n, x = .str z ∧ y = .int n ∧ MulOk z n ∧ Q (.str (Txt.mul z n)) H) := by
  intro pins s σ H x y v u Q I rx ry h
  obtain ⟨z, n, rfl, rfl, hok, q⟩ := h
  obtain ⟨t, rfl⟩ := rx
  obtain ⟨t', rfl⟩ := ry
  exact SB.mul hok fun t' k => ⟨.str (Txt.mul z n), H, I.tok k, ⟨_, rfl⟩, q⟩
/-- * : two ints, a text and an int, a list and an int -/
def oMul : R2 := fun x y H Q => match x, y with
  | .int i, .int j => CMulW i j ∧ Q (.int (i * j)) H
  | .str a, .int n => MulOk a n ∧ Q (.str (Txt.mul a n)) H
  | .ref p, .int n => rRep (.ref p) (.int n) H Q
  | _, _ => False
theorem op_oMul {X : Cx} : OpR X (binaryOp .Mult) oMul := by
  refine OpR.of (OpR.or op_mulW (OpR.or op_mul_str op_rep)) fun x y H Q h => ?_
  unfold oMul at h
  split at h
  · exact .inl ⟨_, _, rfl, rfl, h.1, h.2⟩
  · exact .inr (.inl ⟨_, _, rfl, rfl, h.1, h.2⟩)
  · exact .inr (.inr h)
  · exact h.elim
def oMod : R2 := fun x y H Q => match x, y with
  | .int i, .int j => 0 < j ∧ Q (.int (i % j)) H
  | _, _ => False
theorem op_oMod {X : Cx} : OpR X (binaryOp .Mod) oMod := by
  refine OpR.of op_mod fun x y H Q h => ?_
  unfold oMod at h
  split at h
  · exact ⟨_, _, rfl, rfl, h.1, h.2⟩
  · exact h.elim
def oDiv : R2 := fun x y H Q => match x, y with
  | .int i, .int j => CDivW i j ∧ Q (.int (i / j)) H
  | _, _ => False
theorem op_oDiv {X : Cx} : OpR X (binaryOp .FloorDiv) oDiv := by
  refine OpR.of op_fdivW fun x y H Q h => ?_
  unfold oDiv at h
  split at h
  · exact ⟨_, _, rfl, rfl, h.1, h.2⟩
  · exact h.elim
def oPow : R2 := fun x y H Q => match x, y with
  | .int i, .int j => CPow i j ∧ Q (.int (i ^ j.toNat)) H
  | _, _ => False
theorem op_oPow {X : Cx} : OpR X (binaryOp .Pow) oPow := by
  refine OpR.of op_pow fun x y H Q h => ?_
  unfold oPow at h
  split at h
  · exact ⟨_, _, rfl, rfl, h.1, h.2⟩
  · exact h.elim
/-- an order of two ints -/
def oCmp (p : Int → Int → Bool) : R2 := fun x y H Q => match x, y with
  | .int i, .int j => Q (.bl (p i j)) H
  | _, _ => False
abbrev oLt : R2 := oCmp fun i j => decide (i < j)
abbrev oLe : R2 := oCmp fun i j => decide (i ≤ j)
abbrev oGt : R2 := oCmp fun i j => decide (j < i)
abbrev oGe : R2 := oCmp fun i j => decide (j ≤ i)
theorem oCmp_of {p : Int → Int → Bool} {x y : V} {H : Hp} {Q : VK} (h : oCmp p x y H Q) : rI0 (fun i j => .bl (p i j)) x y H Q := by
  unfold oCmp at h
  split at h
  · exact ⟨_, _, rfl, rfl, h⟩
  · exact h.elim
theorem op_oLt {X : Cx} : OpR X (compareOp .Lt) oLt := OpR.of op_lt fun _ _ _ _ h => oCmp_of h
theorem op_oLe {X : Cx} : OpR X (compareOp .LtE) oLe := OpR.of op_le fun _ _ _ _ h => oCmp_of h
theorem op_oGt {X : Cx} : OpR X (compareOp .Gt) oGt := OpR.of op_gt fun _ _ _ _ h => oCmp_of h
theorem op_oGe {X : Cx} : OpR X (compareOp .GtE) oGe := OpR.of op_ge fun _ _ _ _ h => oCmp_of h
def oIsN : R2 := fun x y H Q => y = .non ∧ Q (.bl (decide (x = .non))) H
def oNotN : R2 := fun x y H Q => y = .non ∧ Q (.bl (!decide (x = .non))) H
theorem op_oIsN {X : Cx} : OpR X (compareOp .Is) oIsN := op_isN
theorem op_oNotN {X : Cx} : OpR X (compareOp .IsNot) oNotN := op_notN
/-- == of flat values, and of data as a whole -/
def oEq (K : PySem.W.Frag) : R2 := fun x y H Q => rEq x y H Q ∨ rEqD K x y H Q
def oNe (K : PySem.W.Frag) : R2 := fun x y H Q => rNe x y H Q ∨ rNeD K x y H Q
theorem op_oEq {X : Cx} (hu : X.A.units + 65 < cLine) : OpR X (compareOp .Eq) (oEq X.K) := OpR.or op_eq (op_eqD (by omega))
theorem op_oNe {X : Cx} (hu : X.A.units + 65 < cLine) : OpR X (compareOp .NotEq) (oNe X.K) := OpR.or op_ne (op_neD (by omega))
theorem hu65 {k : Nat} {A : Around} (r : Room k A) : A.units + 65 < cLine := by have := r.un; omega
/-- x in a list or tuple of data -/
def rInT (K : PySem.W.Frag) (neg : Bool) : R2 := fun x y H Q => ∃ d ds, Dp K H x d ∧ (Dp K H y (.tuple ds) ∨ Dp K H y (.list ds)) ∧ SeqAt.shaped d = true ∧ SeqAt.shaped (.list ds) = true ∧ Q (.bl (if neg then !ds.any fun z => PyData.eqv z d else ds.any fun z => PyData.eqv z d)) H
theorem shaped_tl {ds : List PyData} : PyData.canLay0 (.tuple ds) = PyData.canLay0 (.list ds) := by simp [PyData.canLay0]
theorem op_inT {X : Cx} (hu : X.A.units + 65 < cLine) : OpR X (compareOp .In) (rInT X.K false) := by
  intro pins s σ H x y v u Q I rx ry h
  obtain ⟨d, ds, hd, he, sd, se, q⟩ := h
  obtain ⟨as, r1⟩ := Dp.reads I d x v hd rx
  rcases he with he | he
  · obtain ⟨bs, r2⟩ := Dp.reads I (.tuple ds) y u he ry
    exact SeqAt.in_tuple_reads r2 r1 (SeqAt.canLay_of_shaped se) (SeqAt.canLay_of_shaped sd) (room_in_shaped sd hu) ⟨.bl _, H, I, rfl, q⟩
  · obtain ⟨bs, r2⟩ := Dp.reads I (.list ds) y u he ry
    exact SeqAt.in_list_reads r2 r1 (SeqAt.canLay_of_shaped se) (SeqAt.canLay_of_shaped sd) (room_in_shaped sd hu) ⟨.bl _, H, I, rfl, q⟩
theorem op_notInT {X : Cx} (hu : X.A.units + 65 < cLine) : OpR X (compareOp .NotIn) (rInT X.K true) := by
  intro pins s σ H x y v u Q I rx ry h
  obtain ⟨d, ds, hd, he, sd, se, q⟩ := h
  obtain ⟨as, r1⟩ := Dp.reads I d x v hd rx
  rcases he with he | he
  · obtain ⟨bs, r2⟩ := Dp.reads I (.tuple ds) y u he ry
    exact SeqAt.notIn_tuple_reads r2 r1 (SeqAt.canLay_of_shaped se) (SeqAt.canLay_of_shaped sd) (room_in_shaped sd hu) ⟨.bl _, H, I, rfl, q⟩
  · obtain ⟨bs, r2⟩ := Dp.reads I (.list ds) y u he ry
    exact SeqAt.notIn_list_reads r2 r1 (SeqAt.canLay_of_shaped se) (SeqAt.canLay_of_shaped sd) (room_in_shaped sd hu) ⟨.bl _, H, I, rfl, q⟩
/-- in: one sign in a text, a flat thing in a list or tuple -/
def oIn (K : PySem.W.Frag) : R2 := fun x y H Q => match y with
  | .str z => ∃ c : Nat, x = .str ⟨#[c]⟩ ∧ Q (.bl (decide (c ∈ z.cps.toList))) H
  | .ref p => rIn K false x (.ref p) H Q ∨ rInT K false x (.ref p) H Q
  | _ => False
def oNotIn (K : PySem.W.Frag) : R2 := fun x y H Q => match y with
  | .str z => ∃ c : Nat, x = .str ⟨#[c]⟩ ∧ Q (.bl (!decide (c ∈ z.cps.toList))) H
  | .ref p => rIn K true x (.ref p) H Q ∨ rInT K true x (.ref p) H Q
  | _ => False
theorem op_oIn {X : Cx} (hu : X.A.units + 65 < cLine) : OpR X (compareOp .In) (oIn X.K) := by
  refine OpR.of (OpR.or op_in_sign (OpR.or op_in_seq (op_inT hu))) fun x y H Q h => ?_
  unfold oIn at h
  split at h
  · obtain ⟨c, rfl, q⟩ := h
    exact .inl ⟨c, _, rfl, rfl, q⟩
  · exact .inr h
  · exact h.elim
theorem op_oNotIn {X : Cx} (hu : X.A.units + 65 < cLine) : OpR X (compareOp .NotIn) (oNotIn X.K) := by
  refine OpR.of (OpR.or op_notIn_sign (OpR.or op_notIn_seq (op_notInT hu))) fun x y H Q h => ?_
  unfold oNotIn at h
  split at h
  · obtain ⟨c, rfl, q⟩ := h
    exact .inl ⟨c, _, rfl, rfl, q⟩
  · exact .inr h
  · exact h.elim
def oNeg : V → Hp → VK → Prop := fun x H Q => match x with
  | .int i => Q (.int (-i)) H
  | _ => False
theorem un_oNeg {X : Cx} : UnR X (unaryOp .USub) oNeg := by
  intro pins s σ H x u Q I rx h
  refine un_neg pins s σ H x u Q I rx ?_
  unfold oNeg at h
  split at h
  · exact ⟨_, rfl, h⟩
  · exact h.elim

/-! ### built-in functions -/
def cInt : List V → Hp → VK → Prop := fun xs H Q => match xs with
  | [.int i] => Q (.int i) H
  | [.bl k] => Q (.int (if k then 1 else 0)) H
  | _ => False
theorem call_cInt {X : Cx} : CallR X (.type "int") cInt := by
  intro pins s σ H xs us Q I r h
  refine call_int1 pins s σ H xs us Q I r ?_
  unfold cInt at h
  split at h
  · exact .inl ⟨_, rfl, h⟩
  · exact .inr ⟨_, rfl, h⟩
  · exact h.elim
def cAbs : List V → Hp → VK → Prop := fun xs H Q => match xs with
  | [.int i] => Q (.int (i.natAbs : Int)) H
  | _ => False
theorem call_cAbs {X : Cx} : CallR X (.builtin "abs") cAbs := by
  intro pins s σ H xs us Q I r h
  refine call_abs pins s σ H xs us Q I r ?_
  unfold cAbs at h
  split at h
  · rename_i i
    refine ⟨_, rfl, ?_⟩
    have e : (if i < 0 then -i else i) = (i.natAbs : Int) := by split <;> omega
    rw [e]
    exact h
  · exact h.elim
def cLen (K : PySem.W.Frag) : List V → Hp → VK → Prop := fun xs H Q => ∃ x n, xs = [x] ∧ LenV K x H n ∧ Q (.int n) H
theorem call_cLen {X : Cx} : CallR X (.builtin "len") (cLen X.K) := call_len
def cList (K : PySem.W.Frag) : List V → Hp → VK → Prop := fun xs H Q => ∃ p ys, xs = [.ref p] ∧ (SqL K H p ys ∨ SqT K H p ys) ∧ ∀ l, H l = none → Q (.ref l) (upd H l (.lst ys))
theorem call_cList {X : Cx} : CallR X (.type "list") (cList X.K) := call_list_of
def cTuple (K : PySem.W.Frag) : List V → Hp → VK → Prop := fun xs H Q => ∃ p ys, xs = [.ref p] ∧ SqL K H p ys ∧ ∀ l, H l = none → Q (.ref l) (upd H l (.tup ys))
/-- isinstance with one built-in class, by what the value is -/
def isTy (x : V) (H : Hp) (n : String) (b : Bool) : Prop := match x with
  | .non => b = false
  | .bl _ => b = (n == "bool" || n == "int")
  | .int _ => b = (n == "int")
  | .str _ => b = (n == "str")
  | .ref p => (∃ xs, H p = some (.tup xs)) ∧ b = (n == "tuple") ∨ (∃ xs, H p = some (.lst xs)) ∧ b = (n == "list")
  | _ => False
def tyNames : List String := ["bool", "int", "str", "tuple", "list"]
def cIsi (_K : PySem.W.Frag) : List V → Hp → VK → Prop := fun xs H Q => ∃ x n b, xs = [x, .ty n] ∧ n ∈ tyNames ∧ isTy x H n b ∧ Q (.bl b) H
theorem kit_names (K : PySem.W.Frag) : ∀ t ∈ (["NoneType", "bool", "int", "str", "tuple", "list"] : List String), ∀ n ∈ tyNames, PySem.W.kitOne K (.type t) (.type n) = some (t == n || (t == "bool" && n == "int")) := by
  intro t ht n hn
  simp only [tyNames, List.mem_cons, List.not_mem_nil, or_false] at ht hn
  rcases ht with rfl | rfl | rfl | rfl | rfl | rfl <;> rcases hn with rfl | rfl | rfl | rfl | rfl <;> exact kit_ty (by decide +kernel)

theorem call_cIsi {X : Cx} : CallR X (.builtin "isinstance") (cIsi X.K) := by
  intro pins s σ H xs us Q I r h
  refine call_isi pins s σ H xs us Q I r ?_
  obtain ⟨x, n, b, rfl, hn, ht, q⟩ := h
  have hk := fun t ht => kit_names X.K t ht n hn
  unfold isTy at ht
  split at ht
  · refine ⟨_, _, _, _, b, rfl, .ty n, .base .non, ?_, q⟩
    rw [hk "NoneType" (by decide), ht]
    simp only [tyNames, List.mem_cons, List.not_mem_nil, or_false] at hn
    rcases hn with rfl | rfl | rfl | rfl | rfl <;> rfl
  · refine ⟨_, _, _, _, b, rfl, .ty n, .base (.bl _), ?_, q⟩
    rw [hk "bool" (by decide), ht]
    simp only [tyNames, List.mem_cons, List.not_mem_nil, or_false] at hn
    rcases hn with rfl | rfl | rfl | rfl | rfl <;> rfl
  · refine ⟨_, _, _, _, b, rfl, .ty n, .base (.int _), ?_, q⟩
    rw [hk "int" (by decide), ht]
    simp only [tyNames, List.mem_cons, List.not_mem_nil, or_false] at hn
    rcases hn with rfl | rfl | rfl | rfl | rfl <;> rfl
  · refine ⟨_, _, _, _, b, rfl, .ty n, .base (.str _), ?_, q⟩
    rw [hk "str" (by decide), ht]
    simp only [tyNames, List.mem_cons, List.not_mem_nil, or_false] at hn
    rcases hn with rfl | rfl | rfl | rfl | rfl <;> rfl
  · rcases ht with ⟨⟨xs, e⟩, ht⟩ | ⟨⟨xs, e⟩, ht⟩
    · refine ⟨_, _, _, _, b, rfl, .ty n, .base (.tup e), ?_, q⟩
      rw [hk "tuple" (by decide), ht]
      simp only [tyNames, List.mem_cons, List.not_mem_nil, or_false] at hn
      rcases hn with rfl | rfl | rfl | rfl | rfl <;> rfl
    · refine ⟨_, _, _, _, b, rfl, .ty n, .base (.lst e), ?_, q⟩
      rw [hk "list" (by decide), ht]
      simp only [tyNames, List.mem_cons, List.not_mem_nil, or_false] at hn
      rcases hn with rfl | rfl | rfl | rfl | rfl <;> rfl
  · exact ht.elim

/-! ### slices, items, what a for walks: by what they meet -/
def oSl (K : PySem.W.Frag) : V → Option Int → Option Int → Hp → VK → Prop := fun x lo hi H Q => match x with
  | .str z => z.length ≤ sizeLine ∧ Q (.str (cutS z lo hi)) H
  | .ref p => rSlL K (.ref p) lo hi H Q ∨ rSlT K (.ref p) lo hi H Q
  | _ => False
theorem sl_oSl {X : Cx} : SlR X (oSl X.K) := by
  intro pins s σ H x v vl vu lo hi sl Q I rx hs pl pu h
  unfold oSl at h
  split at h
  · exact sl_str pins s σ H _ v vl vu lo hi sl Q I rx hs pl pu ⟨_, rfl, h.1, h.2⟩
  · rcases h with h | h
    · exact sl_list pins s σ H _ v vl vu lo hi sl Q I rx hs pl pu h
    · exact sl_tup pins s σ H _ v vl vu lo hi sl Q I rx hs pl pu h
  · exact h.elim
def oIx (K : PySem.W.Frag) : R2 := fun x y H Q => match x, y with
  | .str z, .int i => ∃ c : Nat, z.length ≤ sizeLine ∧ atI z.cps.toList i = some c ∧ Q (.str ⟨#[c]⟩) H
  | .ref p, .int i => ∃ xs v, (SqL K H p xs ∨ SqT K H p xs) ∧ atI xs i = some v ∧ Q v H
  | _, _ => False
theorem ix_oIx {X : Cx} : IxR X (oIx X.K) := by
  have key : ∀ x y H Q, oIx X.K x y H Q → rIx X.K x y H Q := by
    intro x y H Q h
    unfold oIx at h
    split at h
    · obtain ⟨c, hz, e, q⟩ := h
      exact .inr (.inr ⟨_, _, c, rfl, rfl, hz, e, q⟩)
    · obtain ⟨xs, v, hs, e, q⟩ := h
      rcases hs with hs | hs
      · exact .inl ⟨_, xs, _, v, rfl, rfl, hs, e, q⟩
      · exact .inr (.inl ⟨_, xs, _, v, rfl, rfl, hs, e, q⟩)
    · exact h.elim
  have base := ix_seq (X := X)
  unfold IxR at base ⊢
  intros
  apply base <;> first | assumption | (apply key; assumption)
def iAny (K : PySem.W.Frag) (tl : TE) : TI := fun σ H R => iList K tl σ H R ∨ iTup K tl σ H R ∨ iStr tl σ H R
theorem pi_any {X : Cx} {tg l : Expr} {tl : TE} (hl : PE X l tl) : PI X tg l (iAny X.K tl) := ⟨fun pins s σ H R I h => by
  rcases h with h | h | h
  · exact (pi_list hl).run pins s σ H R I h
  · exact (pi_tup hl).run pins s σ H R I h
  · exact (pi_str hl).run pins s σ H R I h⟩
theorem PE.or {X : Cx} {e : Expr} {t u : TE} (a : PE X e t) (b : PE X e u) : PE X e (fun σ H Q => t σ H Q ∨ u σ H Q) := ⟨fun pins s σ H Q I h => by
  rcases h with h | h
  · exact a.run pins s σ H Q I h
  · exact b.run pins s σ H Q I h⟩
/-- a comparison in the middle: a < b < c -/
theorem PT.or {X : Cx} {e : Expr} {t u : TT} (a : PT X e t) (b : PT X e u) : PT X e (fun σ H Q => t σ H Q ∨ u σ H Q) := ⟨fun pins s σ H Q I h => by
  rcases h with h | h
  · exact a.run pins s σ H Q I h
  · exact b.run pins s σ H Q I h⟩

theorem bi_int : bootBuiltins "int" = some (.type "int") := by decide +kernel
theorem bi_list : bootBuiltins "list" = some (.type "list") := by decide +kernel
theorem bi_tuple : bootBuiltins "tuple" = some (.type "tuple") := by decide +kernel
theorem bi_bool : bootBuiltins "bool" = some (.type "bool") := by decide +kernel
theorem bi_str : bootBuiltins "str" = some (.type "str") := by decide +kernel
theorem bi_dict : bootBuiltins "dict" = some (.type "dict") := by decide +kernel
theorem bi_len : bootBuiltins "len" = some (.builtin "len") := by decide +kernel
theorem bi_abs : bootBuiltins "abs" = some (.builtin "abs") := by decide +kernel
theorem bi_isinstance : bootBuiltins "isinstance" = some (.builtin "isinstance") := by decide +kernel
theorem bi_ValueError : bootBuiltins "ValueError" = some (.type "ValueError") := by decide +kernel
end Ov

set_option Elab.async false
set_option linter.all false
set_option maxRecDepth 100000
namespace Ov
open PySem PySem.Spec PyProof.Rows L2
/-! ### readings, step by step -/
section
variable {σ σ' : L2.St} {H H' : Hp} {t u : TS} {D : Ends} {te ta tb : TE} {tt tu : TT} {g : TG} {Q : VK} {QB : Bool → Hp → Prop} {i : Nat} {v : V} {r : R2} {QA : List V → Hp → Prop} {al ar : TA}
theorem q_seq (h : t { D with nx := u D } σ H) : tSeq t u D σ H := h
theorem q_asg (h : te σ H fun x H1 => g x σ H1 D.nx) : tAsg te g D σ H := h
theorem q_name {QS : L2.St → Hp → Prop} (h : QS (σ.set i (some v)) H) : gName i v σ H QS := h
theorem q_drop (h : te σ H fun _ H1 => D.nx σ H1) : tDrop te D σ H := h
theorem q_ret (h : te σ H D.rt) : tRet te D σ H := h
theorem q_retN (h : D.rt .non H) : tRetN D σ H := h
theorem q_next (h : D.nx σ H) : tNext D σ H := h
theorem q_break (h : D.bk σ H) : tBreak D σ H := h
theorem q_cont (h : D.ct σ H) : tCont D σ H := h
theorem q_ifS (h : tt σ H fun b H1 => if b = true then t D σ H1 else u D σ H1) : tIfS tt t u D σ H := h
theorem q_ifE (h : tt σ H fun c H1 => if c = true then ta σ H1 Q else tb σ H1 Q) : tIf tt ta tb σ H Q := h
theorem q_var (e : σ[i]? = some (some v)) (h : Q v H) : tVar i σ H Q := ⟨v, e, h⟩
theorem q_c (h : Q v H) : tC v σ H Q := h
theorem q_op (h : ta σ H fun x H1 => tb σ H1 fun y H2 => r x y H2 Q) : tOp r ta tb σ H Q := h
theorem q_un {r : V → Hp → VK → Prop} (h : ta σ H fun x H1 => r x H1 Q) : tUn r ta σ H Q := h
theorem q_test (h : te σ H fun x H' => ∃ k, x = .bl k ∧ QB k H') : tTest te σ H QB := h
theorem q_tB (h : te σ H fun x H' => ∃ k, x = .bl k ∧ QB k H') : tB te σ H QB := h
theorem q_bl {b : Bool} {R : Bool → Prop} (h : R b) : ∃ k, V.bl b = V.bl k ∧ R k := ⟨b, rfl, h⟩
theorem q_and (h : tt σ H fun c H1 => if c = true then tu σ H1 QB else QB false H1) : tAnd tt tu σ H QB := h
theorem q_or (h : tt σ H fun c H1 => if c = true then QB true H1 else tu σ H1 QB) : tOr tt tu σ H QB := h
theorem q_not (h : tt σ H fun c H1 => QB (!c) H1) : tNot tt σ H QB := h
theorem q_andV (h : ta σ H fun x H1 => ∃ c, x = .bl c ∧ if c = true then tb σ H1 Q else Q (.bl false) H1) : tAndV ta tb σ H Q := h
theorem q_orV (h : ta σ H fun x H1 => ∃ c, x = .bl c ∧ if c = true then Q (.bl true) H1 else tb σ H1 Q) : tOrV ta tb σ H Q := h
theorem q_notV (h : ta σ H fun x H1 => ∃ c, x = .bl c ∧ Q (.bl (!c)) H1) : tNotV ta σ H Q := h
theorem q_cons (h : te σ H fun x H1 => ar σ H1 fun xs H2 => QA (x :: xs) H2) : tCons te ar σ H QA := h
theorem q_nil (h : QA [] H) : tNil σ H QA := h
theorem q_call {sp : Sp} {dvs : List V} {E : XK} (h : al σ H fun vs H1 => sp (vs ++ dvs) H1 Q E) : tCall sp dvs E al σ H Q := h
theorem q_cb {r : List V → Hp → VK → Prop} (h : al σ H fun vs H1 => r vs H1 Q) : tCB r al σ H Q := h
theorem q_tup (h : al σ H fun xs H1 => xs.length ≤ sizeLine ∧ ∀ p, H1 p = none → Q (.ref p) (upd H1 p (.tup xs))) : tTup al σ H Q := h
theorem q_lst (h : al σ H fun xs H1 => xs.length ≤ sizeLine ∧ ∀ p, H1 p = none → Q (.ref p) (upd H1 p (.lst xs))) : tLst al σ H Q := h
theorem q_sl {r : V → Option Int → Option Int → Hp → VK → Prop} {tl th : TO} (h : te σ H fun x H1 => tl σ H1 fun l H2 => th σ H2 fun u H3 => r x l u H3 Q) : tSl r te tl th σ H Q := h
theorem q_noPart {QO : Option Int → Hp → Prop} (h : QO none H) : tNoPart σ H QO := h
theorem q_part {QO : Option Int → Hp → Prop} (h : te σ H fun x H1 => ∃ i, x = .int i ∧ QO (some i) H1) : tPart te σ H QO := h
theorem q_int {j : Int} {R : Int → Prop} (h : R j) : ∃ i, V.int j = V.int i ∧ R i := ⟨j, rfl, h⟩
theorem q_gsub {to ti : TE} {ts : TSet} {QS : L2.St → Hp → Prop} (h : to σ H fun o H1 => ti σ H1 fun i H2 => ts o i v H2 fun H3 => QS σ H3) : gSub to ti ts v σ H QS := h
theorem q_bm {K : PySem.W.Frag} {T : String} {r : V → List V → Hp → VK → Prop} (h : te σ H fun x H1 => tyV K T x H1 ∧ al σ H1 fun xs H2 => r x xs H2 Q) : tBM K T r te al σ H Q := h
theorem q_bm0 {K : PySem.W.Frag} {T : String} {r : V → List V → Hp → VK → Prop} (h : te σ H fun x H1 => tyV K T x H1 ∧ r x [] H1 Q) : tBM0 K T r te σ H Q := h
theorem q_for {wi : TI} {tb : TS} (h : wi σ H fun J H1 => ∃ W : Nat → Nat → L2.St → Hp → Prop, (∃ m, W 0 m σ H1) ∧ ∀ i m σ H, W i m σ H →
  (J.stop i H ∧ D.nx σ H) ∨ (J.go i H ∧ ∃ N : L2.St → Hp → Prop, (∀ σ' H', N σ' H' → ∃ m', m' < m ∧ W (i + 1) m' σ' H') ∧ ∀ x H', J.yld i H x H' → g x σ H' fun σ2 H2 => tb { D with nx := N, ct := N, bk := D.nx } σ2 H2)) : tFor wi g tb D σ H := h
/-! operators at values that are known -/
theorem q_addI {K : PySem.W.Frag} {i j : Int} (h : Q (.int (i + j)) H) : oAdd K (.int i) (.int j) H Q := h
theorem q_subI {i j : Int} (h : Q (.int (i - j)) H) : oSub (.int i) (.int j) H Q := h
theorem q_ltI {i j : Int} (h : Q (.bl (decide (i < j))) H) : oLt (.int i) (.int j) H Q := h
theorem q_leI {i j : Int} (h : Q (.bl (decide (i ≤ j))) H) : oLe (.int i) (.int j) H Q := h
theorem q_gtI {i j : Int} (h : Q (.bl (decide (j < i))) H) : oGt (.int i) (.int j) H Q := h
theorem q_geI {i j : Int} (h : Q (.bl (decide (j ≤ i))) H) : oGe (.int i) (.int j) H Q := h
theorem q_negI {i : Int} (h : Q (.int (-i)) H) : oNeg (.int i) H Q := h
theorem q_cIntI {i : Int} (h : Q (.int i) H) : cInt [.int i] H Q := h
theorem q_cIntB {k : Bool} (h : Q (.int (if k then 1 else 0)) H) : cInt [.bl k] H Q := h
theorem q_cAbs {i : Int} (h : Q (.int (i.natAbs : Int)) H) : cAbs [.int i] H Q := h
theorem q_modI {i j : Int} (hj : 0 < j) (h : Q (.int (i % j)) H) : oMod (.int i) (.int j) H Q := ⟨hj, h⟩
theorem q_eqS {K : PySem.W.Frag} {x y : V} (hs : scal x y = true) (h : Q (.bl (decide (x = y))) H) : oEq K x y H Q := .inl ⟨hs, h⟩
theorem q_neS {K : PySem.W.Frag} {x y : V} (hs : scal x y = true) (h : Q (.bl (!decide (x = y))) H) : oNe K x y H Q := .inl ⟨hs, h⟩
theorem q_eqD {K : PySem.W.Frag} {x y : V} {d e : PyData} (hx : Dp K H x d) (hy : Dp K H y e) (sx : SeqAt.shaped d = true) (sy : SeqAt.shaped e = true) (h : Q (.bl (PyData.eqv d e)) H) : oEq K x y H Q := .inr ⟨d, e, hx, hy, sx, sy, h⟩
theorem q_inD {K : PySem.W.Frag} {x : V} {p : Addr} {d : PyData} {ds : List PyData} (hx : Dp K H x d) (hy : Dp K H (.ref p) (.tuple ds) ∨ Dp K H (.ref p) (.list ds)) (sx : SeqAt.shaped d = true) (sy : SeqAt.shaped (.list ds) = true) (h : Q (.bl (ds.any fun z => PyData.eqv z d)) H) : oIn K x (.ref p) H Q := .inr ⟨d, ds, hx, hy, sx, sy, h⟩
theorem q_isN (h : Q (.bl (decide (v = .non))) H) : oIsN v .non H Q := ⟨rfl, h⟩
theorem q_notN (h : Q (.bl (!decide (v = .non))) H) : oNotN v .non H Q := ⟨rfl, h⟩
theorem q_ixS {K : PySem.W.Frag} {z : Str} {i : Int} {c : Nat} (hz : z.length ≤ sizeLine) (e : atI z.cps.toList i = some c) (h : Q (.str ⟨#[c]⟩) H) : oIx K (.str z) (.int i) H Q := ⟨c, hz, e, h⟩
theorem q_ixL {K : PySem.W.Frag} {p : Addr} {xs : List V} {i : Int} (hp : H p = some (.lst xs)) (e : atI xs i = some v) (h : Q v H) : oIx K (.ref p) (.int i) H Q := ⟨xs, v, .inl (SqL.of hp), e, h⟩
theorem q_ixT {K : PySem.W.Frag} {p : Addr} {xs : List V} {i : Int} (hp : H p = some (.tup xs)) (e : atI xs i = some v) (h : Q v H) : oIx K (.ref p) (.int i) H Q := ⟨xs, v, .inr (SqT.of hp), e, h⟩
theorem q_setL {p : Addr} {xs : List V} {k : Int} {j : Nat} {QH : Hp → Prop} (hp : H p = some (.lst xs)) (e : ixN xs.length k = some j) (h : QH (upd H p (.lst (xs.set j v)))) : rSetL (.ref p) (.int k) v H QH := ⟨p, xs, k, j, rfl, rfl, hp, e, h⟩
theorem q_lenL {K : PySem.W.Frag} {p : Addr} {xs : List V} (hp : H p = some (.lst xs)) (h : Q (.int xs.length) H) : cLen K [.ref p] H Q := ⟨_, xs.length, rfl, .inl ⟨xs, SqL.of hp, rfl⟩, h⟩
theorem q_lenT {K : PySem.W.Frag} {p : Addr} {xs : List V} (hp : H p = some (.tup xs)) (h : Q (.int xs.length) H) : cLen K [.ref p] H Q := ⟨_, xs.length, rfl, .inr ⟨xs, SqT.of hp, rfl⟩, h⟩
theorem q_lenS {K : PySem.W.Frag} {z : Str} (hz : z.length ≤ sizeLine) (h : Q (.int z.length) H) : cLen K [.str z] H Q := ⟨_, z.length, rfl, ⟨hz, rfl⟩, h⟩
theorem q_addS {K : PySem.W.Frag} {a b : Str} (hl : a.length + b.length ≤ sizeLine) (h : Q (.str (a ++ b)) H) : oAdd K (.str a) (.str b) H Q := ⟨hl, h⟩
theorem q_addL {K : PySem.W.Frag} {p q : Addr} {xs ys : List V} (hp : H p = some (.lst xs)) (hq : H q = some (.lst ys)) (hl : xs.length + ys.length ≤ sizeLine) (h : ∀ r, H r = none → Q (.ref r) (upd H r (.lst (xs ++ ys)))) : oAdd K (.ref p) (.ref q) H Q := .inl ⟨p, q, xs, ys, rfl, rfl, hp, hq, hl, h⟩
theorem q_mulI {i j : Int} (hc : CMulW i j) (h : Q (.int (i * j)) H) : oMul (.int i) (.int j) H Q := ⟨hc, h⟩
theorem q_divI {i j : Int} (hc : CDivW i j) (h : Q (.int (i / j)) H) : oDiv (.int i) (.int j) H Q := ⟨hc, h⟩
theorem q_powI {i j : Int} (hc : CPow i j) (h : Q (.int (i ^ j.toNat)) H) : oPow (.int i) (.int j) H Q := ⟨hc, h⟩
theorem q_slS {K : PySem.W.Frag} {z : Str} {lo hi : Option Int} (hz : z.length ≤ sizeLine) (h : Q (.str (cutS z lo hi)) H) : oSl K (.str z) lo hi H Q := ⟨hz, h⟩
theorem q_isi {K : PySem.W.Frag} {x : V} {n : String} (b : Bool) (hn : n ∈ tyNames) (ht : isTy x H n b) (h : Q (.bl b) H) : cIsi K [x, .ty n] H Q := ⟨x, n, b, rfl, hn, ht, h⟩
theorem q_inS {K : PySem.W.Frag} {c : Nat} {z : Str} (h : Q (.bl (decide (c ∈ z.cps.toList))) H) : oIn K (.str ⟨#[c]⟩) (.str z) H Q := ⟨c, rfl, h⟩
theorem q_notInS {K : PySem.W.Frag} {c : Nat} {z : Str} (h : Q (.bl (!decide (c ∈ z.cps.toList))) H) : oNotIn K (.str ⟨#[c]⟩) (.str z) H Q := ⟨c, rfl, h⟩
theorem q_append {p : Addr} {xs : List V} (hp : H p = some (.lst xs)) (hl : xs.length < sizeLine) (h : Q .non (upd H p (.lst (xs ++ [v])))) : rAppend (.ref p) [v] H Q := ⟨p, xs, v, rfl, rfl, hp, hl, h⟩
end
theorem q_dec {p A B : Prop} [Decidable p] (h1 : p → A) (h2 : ¬ p → B) : if decide p = true then A else B := by
  by_cases h : p
  · rw [if_pos (decide_eq_true h)]
    exact h1 h
  · rw [if_neg (by rw [decide_eq_false h]; exact Bool.false_ne_true)]
    exact h2 h
theorem q_decT {p A B : Prop} [Decidable p] (h : p) (h1 : A) : if decide p = true then A else B := by
  rw [if_pos (decide_eq_true h)]
  exact h1
theorem q_decF {p A B : Prop} [Decidable p] (h : ¬ p) (h1 : B) : if decide p = true then A else B := by
  rw [if_neg (by rw [decide_eq_false h]; exact Bool.false_ne_true)]
  exact h1
theorem q_ndec {p A B : Prop} [Decidable p] (h1 : ¬ p → A) (h2 : p → B) : if (!decide p) = true then A else B := by
  by_cases h : p
  · rw [if_neg (by rw [decide_eq_true h]; decide)]
    exact h2 h
  · rw [if_pos (by rw [decide_eq_false h]; decide)]
    exact h1 h
theorem q_T {A B : Prop} (h : A) : if true = true then A else B := by
  rw [if_pos rfl]
  exact h
theorem q_F {A B : Prop} (h : B) : if false = true then A else B := by
  rw [if_neg Bool.false_ne_true]
  exact h
theorem q_b {A B : Prop} {b : Bool} (h1 : b = true → A) (h2 : b = false → B) : if b = true then A else B := by
  cases b with
  | true => exact q_T (h1 rfl)
  | false => exact q_F (h2 rfl)

/-! ### pure tests and values, as a whole -/
def Val (te : TE) (σ : L2.St) (H : Hp) (v : V) : Prop := ∀ Q : VK, Q v H → te σ H Q
def Ans (t : TT) (σ : L2.St) (H : Hp) (b : Bool) : Prop := ∀ Q : Bool → Hp → Prop, Q b H → t σ H Q
section
variable {σ : L2.St} {H : Hp} {t u : TS} {D : Ends} {te ta tb : TE} {tt tu : TT} {i : Nat} {v x y z : V} {r : R2} {b b1 b2 : Bool} {Q : VK} {K : PySem.W.Frag} {p : Addr} {xs : List V} {k : Int}
theorem q_ifA (h : Ans tt σ H b) (h1 : b = true → t D σ H) (h2 : b = false → u D σ H) : tIfS tt t u D σ H := by
  refine h _ ?_
  cases b with
  | true => exact q_T (h1 rfl)
  | false => exact q_F (h2 rfl)
theorem q_val (h : Val te σ H v) (q : Q v H) : te σ H Q := h Q q
theorem an_test (h : Val te σ H (.bl b)) : Ans (tTest te) σ H b := fun Q q => h _ ⟨b, rfl, q⟩
theorem an_tB (h : Val te σ H (.bl b)) : Ans (tB te) σ H b := fun Q q => h _ ⟨b, rfl, q⟩
theorem an_and (h1 : Ans tt σ H b1) (h2 : b1 = true → Ans tu σ H b2) : Ans (tAnd tt tu) σ H (b1 && b2) := by
  intro Q q
  refine h1 _ ?_
  cases b1 with
  | true => exact q_T (h2 rfl Q q)
  | false => exact q_F q
theorem an_or (h1 : Ans tt σ H b1) (h2 : b1 = false → Ans tu σ H b2) : Ans (tOr tt tu) σ H (b1 || b2) := by
  intro Q q
  refine h1 _ ?_
  cases b1 with
  | true => exact q_T q
  | false => exact q_F (h2 rfl Q q)
theorem an_not (h : Ans tt σ H b) : Ans (tNot tt) σ H (!b) := fun Q q => h _ q
theorem Ans.to (h : Ans tt σ H b) (e : b = b1) : Ans tt σ H b1 := e ▸ h
theorem va_var (e : σ[i]? = some (some v)) : Val (tVar i) σ H v := fun _ q => ⟨v, e, q⟩
theorem va_c : Val (tC v) σ H v := fun _ q => q
theorem va_op (ha : Val ta σ H x) (hb : Val tb σ H y) (hr : ∀ Q : VK, Q z H → r x y H Q) : Val (tOp r ta tb) σ H z := fun Q q => ha _ (hb _ (hr Q q))
theorem va_eqS (ha : Val ta σ H x) (hb : Val tb σ H y) (hs : scal x y = true) : Val (tOp (oEq K) ta tb) σ H (.bl (decide (x = y))) := va_op ha hb fun _ q => q_eqS hs q
theorem va_neS (ha : Val ta σ H x) (hb : Val tb σ H y) (hs : scal x y = true) : Val (tOp (oNe K) ta tb) σ H (.bl (!decide (x = y))) := va_op ha hb fun _ q => q_neS hs q
theorem va_ixT (ha : Val ta σ H (.ref p)) (hb : Val tb σ H (.int k)) (hp : H p = some (.tup xs)) (e : atI xs k = some v) : Val (tOp (oIx K) ta tb) σ H v := va_op ha hb fun _ q => q_ixT hp e q
theorem va_ixL (ha : Val ta σ H (.ref p)) (hb : Val tb σ H (.int k)) (hp : H p = some (.lst xs)) (e : atI xs k = some v) : Val (tOp (oIx K) ta tb) σ H v := va_op ha hb fun _ q => q_ixL hp e q
theorem va_cmp {f : Int → Int → Bool} {j : Int} (ha : Val ta σ H (.int k)) (hb : Val tb σ H (.int j)) : Val (tOp (oCmp f) ta tb) σ H (.bl (f k j)) := va_op ha hb fun _ q => q
theorem va_add {j : Int} (ha : Val ta σ H (.int k)) (hb : Val tb σ H (.int j)) : Val (tOp (oAdd K) ta tb) σ H (.int (k + j)) := va_op ha hb fun _ q => q
theorem va_lenS {s : Str} {ar : TA} (ha : Val ta σ H (.str s)) (hl : s.length ≤ sizeLine) : Val (tCB (cLen K) (tCons ta tNil)) σ H (.int s.length) := fun Q q => ha _ (q_lenS hl q)
theorem va_lenL {ar : TA} (ha : Val ta σ H (.ref p)) (hp : H p = some (.lst xs)) : Val (tCB (cLen K) (tCons ta tNil)) σ H (.int xs.length) := fun Q q => ha _ (q_lenL hp q)
theorem va_lenT {ar : TA} (ha : Val ta σ H (.ref p)) (hp : H p = some (.tup xs)) : Val (tCB (cLen K) (tCons ta tNil)) σ H (.int xs.length) := fun Q q => ha _ (q_lenT hp q)
theorem va_isN (ha : Val ta σ H x) : Val (tOp oIsN ta (tC .non)) σ H (.bl (decide (x = .non))) := va_op ha va_c fun _ q => q_isN q
theorem va_notN (ha : Val ta σ H x) : Val (tOp oNotN ta (tC .non)) σ H (.bl (!decide (x = .non))) := va_op ha va_c fun _ q => q_notN q
theorem va_isi {n : String} (b : Bool) (ha : Val ta σ H x) (hn : n ∈ tyNames) (ht : isTy x H n b) : Val (tCB (cIsi K) (tCons ta (tCons (tC (.ty n)) tNil))) σ H (.bl b) := fun Q q => ha _ (q_isi (K := K) b hn ht q)
theorem va_andV (ha : Val ta σ H (.bl b1)) (hb : b1 = true → Val tb σ H (.bl b2)) : Val (tAndV ta tb) σ H (.bl (b1 && b2)) := by
  intro Q q
  refine ha _ ⟨b1, rfl, ?_⟩
  cases b1 with
  | true => exact q_T (hb rfl Q q)
  | false => exact q_F q
end

/-! ### loops -/
section
variable {K : PySem.W.Frag} {σ : L2.St} {H : Hp} {D : Ends} {g : TG} {tb : TS} {te : TE} {i : Nat} {a : Addr} {xs : List V}
/-- over a list that the body leaves as it is -/
theorem q_forL (e : σ[i]? = some (some (.ref a))) (Pv : Nat → L2.St → Hp → Prop) (h0 : Pv 0 σ H) (hl : ∀ i σ H, i ≤ xs.length → Pv i σ H → SqL K H a xs)
    (hs : ∀ i x σ H, xs[i]? = some x → Pv i σ H → g x σ H fun σ2 H2 => tb { D with nx := Pv (i + 1), ct := Pv (i + 1), bk := D.nx } σ2 H2) (hd : ∀ σ H, Pv xs.length σ H → D.nx σ H) : tFor (iAny K (tVar i)) g tb D σ H :=
  Or.inl ⟨_, e, a, rfl, ⟨_, hl 0 σ H (Nat.zero_le _) h0⟩, for_list (K := K) (a := a) (xs := xs) Pv h0 hl hs hd⟩
/-- over a list that is written or made there -/
theorem q_forN {al : TA} (h : al σ H fun vs H1 => vs.length ≤ sizeLine ∧ ∀ p, H1 p = none → ∃ Pv : Nat → L2.St → Hp → Prop, Pv 0 σ (upd H1 p (.lst vs)) ∧ (∀ i σ H, i ≤ vs.length → Pv i σ H → SqL K H p vs) ∧
    (∀ i x σ H, vs[i]? = some x → Pv i σ H → g x σ H fun σ2 H2 => tb { D with nx := Pv (i + 1), ct := Pv (i + 1), bk := D.nx } σ2 H2) ∧ (∀ σ H, Pv vs.length σ H → D.nx σ H))
    (mono : ∀ Q Q' : List V → Hp → Prop, (∀ vs H, Q vs H → Q' vs H) → al σ H Q → al σ H Q') : tFor (iAny K (tLst al)) g tb D σ H := by
  refine Or.inl ?_
  show tLst al σ H _
  refine mono _ _ (fun vs H1 q => ?_) h
  obtain ⟨hl, q⟩ := q
  refine ⟨hl, fun p hp => ?_⟩
  obtain ⟨Pv, h0, h1, h2, h3⟩ := q p hp
  exact ⟨p, rfl, ⟨_, h1 0 _ _ (Nat.zero_le _) h0⟩, for_list (K := K) (a := p) (xs := vs) Pv h0 h1 h2 h3⟩
/-- over range(n) -/
theorem q_forR {n : Int} (hv : Val te σ H (.int n)) (h1 : -(2 ^ 62) ≤ n) (h2 : n < 2 ^ 62) (Pv : Nat → L2.St → Hp → Prop) (h0 : Pv 0 σ H)
    (hs : ∀ i σ H, i < n.toNat → Pv i σ H → g (.int (0 + i)) σ H fun σ2 H2 => tb { D with nx := Pv (i + 1), ct := Pv (i + 1), bk := D.nx } σ2 H2) (hd : ∀ σ H, Pv n.toNat σ H → D.nx σ H) : tFor (iRng1 (tCons te tNil)) g tb D σ H :=
  hv _ ⟨n, rfl, h1, h2, for_range Pv h0 hs hd⟩
/-- over a text -/
theorem q_forS {z : Str} (e : σ[i]? = some (some (.str z))) (Pv : Nat → L2.St → Hp → Prop) (h0 : Pv 0 σ H)
    (hs : ∀ i c σ H, z.cps.toList[i]? = some c → Pv i σ H → g (.str ⟨#[c]⟩) σ H fun σ2 H2 => tb { D with nx := Pv (i + 1), ct := Pv (i + 1), bk := D.nx } σ2 H2) (hd : ∀ σ H, Pv z.length σ H → D.nx σ H) : tFor (iAny K (tVar i)) g tb D σ H := by
  refine Or.inr (Or.inr ⟨_, e, z, rfl, ?_⟩)
  refine ⟨fun i m σ H => m = z.length - i ∧ i ≤ z.length ∧ Pv i σ H, ⟨z.length, by simp, Nat.zero_le _, h0⟩, ?_⟩
  rintro i m σ H ⟨rfl, hi, p⟩
  by_cases hlt : i < z.length
  · refine .inr ⟨hlt, Pv (i + 1), fun σ' H' p' => ⟨z.length - (i + 1), by omega, rfl, hlt, p'⟩, fun x H' y => ?_⟩
    obtain ⟨e, c, hc, rfl⟩ := y
    subst e
    exact hs i c σ _ (by rw [Array.getElem?_toList]; exact hc) p
  · have e : i = z.length := by omega
    subst e
    exact .inl ⟨Nat.le_refl _, hd σ H p⟩
end
end Ov

set_option Elab.async false
set_option linter.all false
set_option maxRecDepth 100000
namespace Ov
open PySem PySem.Spec PyProof.Rows L2
abbrev Ad := Unit
/-! ### promises by their arguments -/
def Sp1 (φ : V → Hp → VK → XK → Prop) : Sp := fun vs H Q E => ∃ a, vs = [a] ∧ φ a H Q E
def Sp0 (φ : Hp → VK → XK → Prop) : Sp := fun vs H Q E => vs = [] ∧ φ H Q E
def Sp2 (φ : V → V → Hp → VK → XK → Prop) : Sp := fun vs H Q E => ∃ a b, vs = [a, b] ∧ φ a b H Q E
def Sp3 (φ : V → V → V → Hp → VK → XK → Prop) : Sp := fun vs H Q E => ∃ a b c, vs = [a, b, c] ∧ φ a b c H Q E
def Sp4 (φ : V → V → V → V → Hp → VK → XK → Prop) : Sp := fun vs H Q E => ∃ a b c d, vs = [a, b, c, d] ∧ φ a b c d H Q E
def Sp5 (φ : V → V → V → V → V → Hp → VK → XK → Prop) : Sp := fun vs H Q E => ∃ a b c d e, vs = [a, b, c, d, e] ∧ φ a b c d e H Q E
section
variable {vs : List V} {H : Hp} {Q : VK} {E : XK}
theorem len0 {φ} (h : Sp0 φ vs H Q E) : vs.length = 0 := by obtain ⟨rfl, _⟩ := h; rfl
theorem len1 {φ} (h : Sp1 φ vs H Q E) : vs.length = 1 := by obtain ⟨_, rfl, _⟩ := h; rfl
theorem len2 {φ} (h : Sp2 φ vs H Q E) : vs.length = 2 := by obtain ⟨_, _, rfl, _⟩ := h; rfl
theorem len3 {φ} (h : Sp3 φ vs H Q E) : vs.length = 3 := by obtain ⟨_, _, _, rfl, _⟩ := h; rfl
theorem len4 {φ} (h : Sp4 φ vs H Q E) : vs.length = 4 := by obtain ⟨_, _, _, _, rfl, _⟩ := h; rfl
theorem len5 {φ} (h : Sp5 φ vs H Q E) : vs.length = 5 := by obtain ⟨_, _, _, _, _, rfl, _⟩ := h; rfl
theorem s0 {φ : Hp → VK → XK → Prop} (h : φ H Q E) : Sp0 φ ([] ++ []) H Q E := ⟨rfl, h⟩
theorem s1 {a : V} {φ : V → Hp → VK → XK → Prop} (h : φ a H Q E) : Sp1 φ ([a] ++ []) H Q E := ⟨_, rfl, h⟩
theorem s2 {a b : V} {φ : V → V → Hp → VK → XK → Prop} (h : φ a b H Q E) : Sp2 φ ([a, b] ++ []) H Q E := ⟨_, _, rfl, h⟩
theorem s3 {a b c : V} {φ : V → V → V → Hp → VK → XK → Prop} (h : φ a b c H Q E) : Sp3 φ ([a, b, c] ++ []) H Q E := ⟨_, _, _, rfl, h⟩
theorem s4 {a b c d : V} {φ : V → V → V → V → Hp → VK → XK → Prop} (h : φ a b c d H Q E) : Sp4 φ ([a, b, c, d] ++ []) H Q E := ⟨_, _, _, _, rfl, h⟩
theorem s5 {a b c d e : V} {φ : V → V → V → V → V → Hp → VK → XK → Prop} (h : φ a b c d e H Q E) : Sp5 φ ([a, b, c, d, e] ++ []) H Q E := ⟨_, _, _, _, _, rfl, h⟩
end
/-! ### heaps that differ at one place alone -/
def Off (p : Addr) (H H' : Hp) : Prop := ∀ q, q ≠ p → H' q = H q
theorem Off.refl {p : Addr} {H : Hp} : Off p H H := fun _ _ => rfl
theorem Off.trans {p : Addr} {H H1 H2 : Hp} (a : Off p H H1) (b : Off p H1 H2) : Off p H H2 := fun q h => (b q h).trans (a q h)
theorem Off.upd {p : Addr} {H : Hp} {o : HO} : Off p H (upd H p o) := fun _ h => upd_ne h
theorem Off.to {p q : Addr} {H H' : Hp} {o : Option HO} (a : Off p H H') (h : H q = o) (ne : q ≠ p) : H' q = o := (a q ne).trans h
/-! ### the pool of draws -/
structure Pool (H : Hp) (p : Addr) : Prop where
  ex : ∃ (l : Addr) (cs : List Int) (a b c d : Int), H p = some (.lst [.ref l, .int a, .int b, .int c, .int d]) ∧ H l = some (.lst (cs.map V.int)) ∧ l ≠ p ∧ 0 ≤ a ∧ 0 ≤ c ∧ c < 10 ^ 18 ∧ d ≤ 7
theorem Pool.off {H H' : Hp} {p q : Addr} (P : Pool H p) (o : Off q H H') (hq : ∀ xs, H q ≠ some (.lst xs)) : Pool H' p := by
  obtain ⟨l, cs, a, b, c, d, hp, hl, ne, h⟩ := P
  exact ⟨l, cs, a, b, c, d, o.to hp (fun e => hq _ (e ▸ hp)), o.to hl (fun e => hq _ (e ▸ hl)), ne, h⟩
theorem Pool.new {H : Hp} {p q : Addr} {o : HO} (P : Pool H p) (hq : H q = none) : Pool (L2.upd H q o) p := P.off Off.upd fun xs e => by rw [hq] at e; cases e
/-- what a draw leaves: the pool again, all else as it was -/
def Drawn (H : Hp) (p : Addr) (H' : Hp) : Prop := Pool H' p ∧ Off p H H'

local macro_rules | `(tactic| walk_at "r1") => `(tactic| (first
  | with_reducible refine q_seq ?_ | with_reducible refine q_asg ?_ | with_reducible refine q_name ?_ | with_reducible refine q_ret ?_ | with_reducible refine q_drop ?_ | with_reducible refine q_next ?_
  | with_reducible refine q_ifS ?_ | with_reducible refine q_ifE ?_ | with_reducible refine q_op ?_ | with_reducible refine q_un ?_ | with_reducible refine q_test ?_ | with_reducible refine q_tB ?_ | with_reducible refine q_bl ?_
  | with_reducible refine q_c ?_ | with_reducible refine q_cons ?_ | with_reducible refine q_nil ?_ | with_reducible refine q_call ?_ | with_reducible refine q_cb ?_ | with_reducible refine q_gsub ?_
  | with_reducible refine q_sl ?_ | with_reducible refine q_noPart ?_ | with_reducible refine q_part ?_ | with_reducible refine q_int ?_
  | with_reducible refine q_addI ?_ | with_reducible refine q_subI ?_ | with_reducible refine q_ltI ?_ | with_reducible refine q_leI ?_ | with_reducible refine q_gtI ?_ | with_reducible refine q_geI ?_ | with_reducible refine q_negI ?_
  | with_reducible refine q_cIntI ?_ | with_reducible refine q_cAbs ?_ | with_reducible refine q_isN ?_ | with_reducible refine q_notN ?_
  | with_reducible refine q_and ?_ | with_reducible refine q_or ?_ | with_reducible refine q_not ?_ | with_reducible refine q_andV ?_ | with_reducible refine q_orV ?_ | with_reducible refine q_notV ?_
  | ((with_reducible show tVar _ _ _ _); refine q_var rfl ?_)))
local macro_rules | `(tactic| walk_at "rd") => `(tactic| repeat walk_at "r1")
local macro_rules | `(tactic| walk_at "mod") => `(tactic| with_reducible refine q_modI (by first | omega | decide) ?_)

/-- a number from a cell of the script, a turn and a limit -/
def sp__law_mixed (_ : PySem.W.Frag) (_ : Ad) : Sp := Sp3 fun x y z H Q _ => ∃ c t l : Int, x = .int c ∧ y = .int t ∧ z = .int l ∧ 0 ≤ c ∧ c < 10 ^ 18 ∧ t ≤ 7 ∧ -1 ≤ t ∧ 0 < l ∧ ∀ r, 0 ≤ r → r < l → Q (.int r) H
theorem mul_ok {i j : Int} (a : Nat) (ha : i.natAbs < 2 ^ a) (hb : j.natAbs < 2 ^ 64) (h0 : 0 < a) (h : a ≤ 9000) : CMulW i j := wide_mul ha hb h0 (by decide) (by omega)
theorem mul64 {i j : Int} (ha : i.natAbs < 18446744073709551616) (hb : j.natAbs < 18446744073709551616) : CMulW i j := wide_mul (a := 64) (b := 64) (by simpa using ha) (by simpa using hb) (by decide) (by decide) (by decide)

def t__law_mixed (K : PySem.W.Frag) (A : Ad) : TS :=
  (tSeq (tAsg (tOp oMod (tCB cInt (tCons (tOp (oAdd K) (tOp (oAdd K) (tOp oMul (tVar 0) (tC (.int 48271))) (tOp oMul (tVar 1) (tC (.int 69621)))) (tC (.int 11))) tNil)) (tC (.int 2147483647))) (gName 3))
  (tSeq (tAsg (tOp oMod (tCB cInt (tCons (tOp (oAdd K) (tOp (oAdd K) (tOp oMul (tVar 3) (tC (.int 40692))) (tOp oMul (tVar 0) (tC (.int 16807)))) (tOp oMul (tVar 1) (tC (.int 30269)))) tNil)) (tC (.int 2147483399))) (gName 4))
  (tSeq (tAsg (tOp oMod (tCB cInt (tCons (tOp (oAdd K) (tOp oMul (tVar 4) (tC (.int 39373))) (tOp oDiv (tVar 3) (tC (.int 7)))) tNil)) (tC (.int 1000000007))) (gName 5))
  (tRet (tOp oMod (tCB cInt (tCons (tVar 5) tNil)) (tVar 2))))))
theorem pure__law_mixed {K : PySem.W.Frag} {A : Ad} {vs : List V} {H : Hp} {Q : VK} {E : XK} (h : sp__law_mixed K A vs H Q E) : t__law_mixed K A { nx := fun _ H' => Q .non H', rt := Q } (start ["_law_cell", "_law_turn", "_law_limit", "_law_first", "_law_second", "_law_third"] vs) H := by
  obtain ⟨_, _, _, rfl, c, t, l, rfl, rfl, rfl, hc0, hc1, ht, ht0, hl, k⟩ := h
  unfold t__law_mixed
  walk_at "rd"
  refine q_mulI (mul64 (by omega) (by omega)) ?_
  walk_at "rd"
  refine q_mulI (mul64 (by omega) (by omega)) ?_
  walk_at "rd"
  refine q_modI (by decide) ?_
  walk_at "rd"
  have h1 := Int.emod_nonneg (c * 48271 + t * 69621 + 11) (show (2147483647 : Int) ≠ 0 by decide)
  have h2 := Int.emod_lt_of_pos (c * 48271 + t * 69621 + 11) (show (0 : Int) < 2147483647 by decide)
  generalize (c * 48271 + t * 69621 + 11) % 2147483647 = r1 at h1 h2 ⊢
  refine q_mulI (mul64 (by omega) (by omega)) ?_
  walk_at "rd"
  refine q_mulI (mul64 (by omega) (by omega)) ?_
  walk_at "rd"
  refine q_mulI (mul64 (by omega) (by omega)) ?_
  walk_at "rd"
  refine q_modI (by decide) ?_
  walk_at "rd"
  have h3 := Int.emod_nonneg (r1 * 40692 + c * 16807 + t * 30269) (show (2147483399 : Int) ≠ 0 by decide)
  have h4 := Int.emod_lt_of_pos (r1 * 40692 + c * 16807 + t * 30269) (show (0 : Int) < 2147483399 by decide)
  generalize (r1 * 40692 + c * 16807 + t * 30269) % 2147483399 = r2 at h3 h4 ⊢
  refine q_mulI (mul64 (by omega) (by omega)) ?_
  walk_at "rd"
  refine q_divI (wide_div (b := 3) (by decide) (by decide) (by decide) (by decide)) ?_
  walk_at "rd"
  refine q_modI (by decide) ?_
  walk_at "rd"
  refine q_modI hl ?_
  exact k _ (Int.emod_nonneg _ (by omega)) (Int.emod_lt_of_pos _ hl)
/-! ### a draw -/
def sp__law_draw (_ : PySem.W.Frag) (_ : Ad) : Sp := Sp2 fun x y H Q _ => ∃ (p : Addr) (l : Int), x = .ref p ∧ y = .int l ∧ 0 < l ∧ l < 2 ^ 60 ∧ Pool H p ∧ ∀ r H', 0 ≤ r → r < l → Drawn H p H' → Q (.int r) H'
def t__law_draw (K : PySem.W.Frag) (A : Ad) : TS :=
  (tSeq (tIfS (tTest (tOp oGt (tOp (oIx K) (tVar 0) (tC (.int 2))) (tC (.int 0))))
  (tSeq (tAsg (tOp oMod (tCB cInt (tCons (tOp (oIx K) (tVar 0) (tC (.int 2))) tNil)) (tVar 1)) (gName 3))
  (tSeq (tAsg (tOp oDiv (tOp (oIx K) (tVar 0) (tC (.int 2))) (tVar 1)) (gSub (tVar 0) (tC (.int 2)) rSetL))
  (tRet (tVar 3))))
  tNext)
  (tSeq (tIfS (tTest (tOp oGt (tOp (oIx K) (tVar 0) (tC (.int 4))) (tC (.int 0))))
  (tSeq (tAsg (tOp oSub (tOp (oIx K) (tVar 0) (tC (.int 4))) (tC (.int 1))) (gSub (tVar 0) (tC (.int 4)) rSetL))
  (tRet (tCall (sp__law_mixed K A) [] E0 (tCons (tOp (oIx K) (tVar 0) (tC (.int 3))) (tCons (tOp (oIx K) (tVar 0) (tC (.int 4))) (tCons (tVar 1) tNil))))))
  tNext)
  (tSeq (tIfS (tTest (tOp oGe (tOp (oIx K) (tVar 0) (tC (.int 1))) (tCB (cLen K) (tCons (tOp (oIx K) (tVar 0) (tC (.int 0))) tNil))))
  (tRet (tC (.int 0)))
  tNext)
  (tSeq (tAsg (tOp (oIx K) (tOp (oIx K) (tVar 0) (tC (.int 0))) (tOp (oIx K) (tVar 0) (tC (.int 1)))) (gName 2))
  (tSeq (tAsg (tOp (oAdd K) (tOp (oIx K) (tVar 0) (tC (.int 1))) (tC (.int 1))) (gSub (tVar 0) (tC (.int 1)) rSetL))
  (tSeq (tIfS (tTest (tOp oLt (tVar 2) (tC (.int 0))))
  (tAsg (tOp oSub (tUn oNeg (tC (.int 1))) (tVar 2)) (gName 2))
  tNext)
  (tSeq (tIfS (tTest (tOp oGe (tVar 2) (tOp oPow (tC (.int 10)) (tC (.int 18)))))
  (tSeq (tAsg (tOp oDiv (tVar 2) (tVar 1)) (gSub (tVar 0) (tC (.int 2)) rSetL))
  (tRet (tOp oMod (tCB cInt (tCons (tVar 2) tNil)) (tVar 1))))
  tNext)
  (tSeq (tAsg (tVar 2) (gSub (tVar 0) (tC (.int 3)) rSetL))
  (tSeq (tAsg (tC (.int 7)) (gSub (tVar 0) (tC (.int 4)) rSetL))
  (tRet (tCall (sp__law_mixed K A) [] E0 (tCons (tVar 2) (tCons (tC (.int 7)) (tCons (tVar 1) tNil))))))))))))))
theorem at_of {α : Type} {xs : List α} {i : Int} {v : α} (h0 : 0 ≤ i) (h : xs[i.toNat]? = some v) : atI xs i = some v := by
  have hl := (List.getElem?_eq_some_iff.mp h).1
  unfold atI ixN
  rw [if_pos h0, if_pos (by omega)]
  exact h
theorem pure__law_draw {K : PySem.W.Frag} {A : Ad} {vs : List V} {H : Hp} {Q : VK} {E : XK} (h : sp__law_draw K A vs H Q E) : t__law_draw K A { nx := fun _ H' => Q .non H', rt := Q } (start ["_law_pool_here", "_law_limit", "_law_cell", "_law_digit"] vs) H := by
  obtain ⟨_, _, rfl, p, lim, rfl, rfl, hl0, hl1, ⟨l, cs, a, b, c, d, hp, hl, ne, ha, hc0, hc1, hd⟩, k⟩ := h
  have hdiv : ∀ i : Int, CDivW i lim := fun i => wide_div (b := 60) hl0 (by omega) (by decide) (by decide)
  have pool : ∀ (a' b' c' d' : Int), 0 ≤ a' → 0 ≤ c' → c' < 10 ^ 18 → d' ≤ 7 → Drawn H p (upd H p (.lst [.ref l, .int a', .int b', .int c', .int d'])) := fun a' b' c' d' h1 h2 h3 h4 =>
    ⟨⟨l, cs, a', b', c', d', upd_same, by rw [upd_ne ne]; exact hl, ne, h1, h2, h3, h4⟩, Off.upd⟩
  unfold t__law_draw
  walk_at "rd"
  refine q_ixL hp rfl ?_
  walk_at "rd"
  refine q_dec (fun hb => ?_) (fun _ => ?_)
  · walk_at "rd"
    refine q_ixL hp rfl ?_
    walk_at "rd"
    refine q_modI hl0 ?_
    walk_at "rd"
    refine q_ixL hp rfl ?_
    walk_at "rd"
    refine q_divI (hdiv _) ?_
    walk_at "rd"
    refine q_setL hp rfl ?_
    walk_at "rd"
    exact k _ _ (Int.emod_nonneg _ (by omega)) (Int.emod_lt_of_pos _ hl0) (pool a _ c d ha hc0 hc1 hd)
  walk_at "rd"
  refine q_ixL hp rfl ?_
  walk_at "rd"
  refine q_dec (fun hd0 => ?_) (fun _ => ?_)
  · walk_at "rd"
    refine q_ixL hp rfl ?_
    walk_at "rd"
    refine q_setL hp rfl ?_
    walk_at "rd"
    refine q_ixL upd_same rfl ?_
    walk_at "rd"
    refine q_ixL upd_same rfl ?_
    walk_at "rd"
    refine s3 ⟨c, d - 1, lim, rfl, rfl, rfl, hc0, hc1, by omega, by omega, hl0, fun r h0 h1 => ?_⟩
    exact k r _ h0 h1 (pool a b c (d - 1) ha hc0 hc1 (by omega))
  walk_at "rd"
  refine q_ixL hp rfl ?_
  walk_at "rd"
  refine q_ixL hp rfl ?_
  walk_at "rd"
  refine q_lenL hl ?_
  walk_at "rd"
  refine q_dec (fun _ => ?_) (fun hlt => ?_)
  · walk_at "rd"
    exact k 0 H (by omega) hl0 ⟨⟨l, cs, a, b, c, d, hp, hl, ne, ha, hc0, hc1, hd⟩, Off.refl⟩
  rw [List.length_map] at hlt
  have hlt' : a.toNat < cs.length := by omega
  walk_at "rd"
  refine q_ixL hp rfl ?_
  walk_at "rd"
  refine q_ixL hp rfl ?_
  walk_at "rd"
  refine q_ixL (v := .int cs[a.toNat]) hl (at_of ha (by rw [List.getElem?_map, List.getElem?_eq_getElem hlt']; rfl)) ?_
  walk_at "rd"
  generalize cs[a.toNat] = z
  refine q_ixL hp rfl ?_
  walk_at "rd"
  refine q_setL hp rfl ?_
  walk_at "rd"
  -- the cell as it is drawn from
  have tail : ∀ z : Int, 0 ≤ z → (tSeq (tIfS (tTest (tOp oGe (tVar 2) (tOp oPow (tC (.int 10)) (tC (.int 18)))))
  (tSeq (tAsg (tOp oDiv (tVar 2) (tVar 1)) (gSub (tVar 0) (tC (.int 2)) rSetL))
  (tRet (tOp oMod (tCB cInt (tCons (tVar 2) tNil)) (tVar 1))))
  tNext)
  (tSeq (tAsg (tVar 2) (gSub (tVar 0) (tC (.int 3)) rSetL))
  (tSeq (tAsg (tC (.int 7)) (gSub (tVar 0) (tC (.int 4)) rSetL))
  (tRet (tCall (sp__law_mixed K A) [] E0 (tCons (tVar 2) (tCons (tC (.int 7)) (tCons (tVar 1) tNil)))))))) { nx := fun _ H' => Q .non H', rt := Q }
      [some (.ref p), some (.int lim), some (.int z), none] (upd H p (.lst [.ref l, .int (a + 1), .int b, .int c, .int d])) := by
    intro z hz
    walk_at "rd"
    refine q_powI ⟨by decide, by decide, by decide⟩ ?_
    walk_at "rd"
    refine q_dec (fun _ => ?_) (fun hz1 => ?_)
    · walk_at "rd"
      refine q_divI (hdiv _) ?_
      walk_at "rd"
      refine q_setL upd_same rfl ?_
      walk_at "rd"
      refine q_modI hl0 ?_
      rw [upd_upd]
      exact k _ _ (Int.emod_nonneg _ (by omega)) (Int.emod_lt_of_pos _ hl0) (pool (a + 1) _ c d (by omega) hc0 hc1 hd)
    have hz2 : z < 10 ^ 18 := by
      have e : (10 : Int) ^ (18 : Int).toNat = 10 ^ 18 := rfl
      omega
    walk_at "rd"
    refine q_setL upd_same rfl ?_
    walk_at "rd"
    refine q_setL upd_same rfl ?_
    walk_at "rd"
    rw [upd_upd, upd_upd]
    refine s3 ⟨z, 7, lim, rfl, rfl, rfl, hz, hz2, by decide, by decide, hl0, fun r h0 h1 => ?_⟩
    exact k r _ h0 h1 (pool (a + 1) b z 7 (by omega) hz hz2 (by decide))
  refine q_dec (fun hz => ?_) (fun hz => ?_)
  · refine q_asg (q_op (q_un (q_c (q_negI (q_var rfl (q_subI ?_))))))
    exact tail _ (by omega)
  · exact tail _ (by omega)
/-! ### texts by their signs -/
/-- the text of these signs -/
abbrev St8 (l : List Nat) : Str := ⟨l.toArray⟩
theorem st8_app (a b : List Nat) : St8 a ++ St8 b = St8 (a ++ b) := by
  show (⟨a.toArray ++ b.toArray⟩ : Str) = ⟨(a ++ b).toArray⟩
  rw [List.append_toArray]
theorem st8_len (a : List Nat) : (St8 a).length = a.length := rfl
theorem st8_list (a : List Nat) : (St8 a).cps.toList = a := rfl
theorem st8_of (z : Str) : z = St8 z.cps.toList := rfl
theorem st8_inj {a b : List Nat} (h : St8 a = St8 b) : a = b := by
  have h1 : (St8 a).cps.toList = (St8 b).cps.toList := by rw [h]
  exact h1
def lets : List Nat := [97, 98, 99, 100, 101, 102, 103, 104, 105, 106, 107, 108, 109, 110, 111, 112, 113, 114, 115, 116, 117, 118, 119, 120, 121, 122]
def digs : List Nat := [48, 49, 50, 51, 52, 53, 54, 55, 56, 57]
theorem lets_is : ("abcdefghijklmnopqrstuvwxyz" : Str) = St8 lets := by decide +kernel
theorem digs_is : ("0123456789" : Str) = St8 digs := by decide +kernel
/-- the signs of a name -/
structure NameL (l : List Nat) : Prop where
  fst : ∃ c r, l = c :: r ∧ c ∈ lets
  all : ∀ c ∈ l, c ∈ lets ++ digs
  len : l.length ≤ 12
def sp__law_letters (_ : PySem.W.Frag) (_ : Ad) : Sp := Sp0 fun H Q _ => Q (.str (St8 lets)) H
def t__law_letters (K : PySem.W.Frag) (A : Ad) : TS :=
  (tRet (tC (.str "abcdefghijklmnopqrstuvwxyz")))
theorem pure__law_letters {K : PySem.W.Frag} {A : Ad} {vs : List V} {H : Hp} {Q : VK} {E : XK} (h : sp__law_letters K A vs H Q E) : t__law_letters K A { nx := fun _ H' => Q .non H', rt := Q } (start [] vs) H := by
  obtain ⟨rfl, k⟩ := h
  unfold t__law_letters
  walk_at "rd"
  show Q (.str ("abcdefghijklmnopqrstuvwxyz" : Str)) H
  rw [lets_is]
  exact k
def sp__law_pool (K : PySem.W.Frag) (_ : Ad) : Sp := Sp1 fun x H Q _ => ∃ (a : Addr) (cs : List Int), x = .ref a ∧ SqL K H a (cs.map V.int) ∧ ∀ p H', Same H H' → Pool H' p → H p = none → Q (.ref p) H'
def t__law_pool (K : PySem.W.Frag) (A : Ad) : TS :=
  (tRet (tLst (tCons (tCB (cList K) (tCons (tVar 0) tNil)) (tCons (tC (.int 0)) (tCons (tC (.int 0)) (tCons (tC (.int 0)) (tCons (tC (.int 0)) tNil)))))))
theorem pure__law_pool {K : PySem.W.Frag} {A : Ad} {vs : List V} {H : Hp} {Q : VK} {E : XK} (h : sp__law_pool K A vs H Q E) : t__law_pool K A { nx := fun _ H' => Q .non H', rt := Q } (start ["_law_script"] vs) H := by
  obtain ⟨_, rfl, a, cs, rfl, hS, k⟩ := h
  unfold t__law_pool
  walk_at "rd"
  refine q_lst ?_
  walk_at "rd"
  refine ⟨_, _, rfl, .inl hS, fun l hl => ?_⟩
  walk_at "rd"
  refine ⟨by show 5 ≤ sizeLine; decide, fun p hp => ?_⟩
  have ne : l ≠ p := ne_of_none upd_same hp
  have hpH : H p = none := by
    rw [upd_ne (Ne.symm ne)] at hp
    exact hp
  refine k p _ (fun b o e => ?_) ⟨l, cs, 0, 0, 0, 0, upd_same, by rw [upd_ne ne, upd_same], ne, by decide, by decide, by decide, by decide⟩ hpH
  rw [upd_ne (ne_of_none e hpH), upd_ne (ne_of_none e hl)]
  exact e
def sp__law_name (_ : PySem.W.Frag) (_ : Ad) : Sp := Sp1 fun x H Q _ => ∃ (p : Addr), x = .ref p ∧ Pool H p ∧ ∀ l H', NameL l → Drawn H p H' → Q (.str (St8 l)) H'
def t__law_name (K : PySem.W.Frag) (A : Ad) : TS :=
  (tSeq (tAsg (tOp (oAdd K) (tCall (sp__law_letters K A) [] E0 tNil) (tC (.str "0123456789"))) (gName 1))
  (tSeq (tAsg (tOp (oIx K) (tVar 1) (tCall (sp__law_draw K A) [] E0 (tCons (tVar 0) (tCons (tC (.int 26)) tNil)))) (gName 2))
  (tSeq (tAsg (tCall (sp__law_draw K A) [] E0 (tCons (tVar 0) (tCons (tC (.int 3)) tNil))) (gName 3))
  (tSeq (tIfS (tTest (tOp (oEq K) (tCall (sp__law_draw K A) [] E0 (tCons (tVar 0) (tCons (tC (.int 4)) tNil))) (tC (.int 1))))
  (tAsg (tCall (sp__law_draw K A) [] E0 (tCons (tVar 0) (tCons (tC (.int 12)) tNil))) (gName 3))
  tNext)
  (tSeq (tFor (iRng1 (tCons (tVar 3) tNil)) (gName 4)
  (tAsg (tOp (oAdd K) (tVar 2) (tOp (oIx K) (tVar 1) (tCall (sp__law_draw K A) [] E0 (tCons (tVar 0) (tCons (tC (.int 36)) tNil))))) (gName 2)))
  (tRet (tVar 2)))))))
theorem pure__law_name {K : PySem.W.Frag} {A : Ad} {vs : List V} {H : Hp} {Q : VK} {E : XK} (h : sp__law_name K A vs H Q E) : t__law_name K A { nx := fun _ H' => Q .non H', rt := Q } (start ["_law_pool_here", "_law_signs", "_law_name_here", "_law_more", "_law_k"] vs) H := by
  obtain ⟨_, rfl, p, rfl, P, k⟩ := h
  unfold t__law_name
  walk_at "rd"
  refine s0 ?_
  walk_at "rd"
  refine q_addS (by decide) ?_
  walk_at "rd"
  have e36 : St8 lets ++ ("0123456789" : Str) = St8 (lets ++ digs) := by rw [digs_is, st8_app]
  rw [e36]
  refine s2 ⟨p, 26, rfl, rfl, by decide, by decide, P, fun r0 H0 h0 h1 D0 => ?_⟩
  have hr0 : r0.toNat < lets.length := by show r0.toNat < 26; omega
  obtain ⟨c0, hc0⟩ : ∃ c, lets[r0.toNat]? = some c := ⟨_, List.getElem?_eq_getElem hr0⟩
  refine q_ixS (c := c0) (by decide) (at_of h0 (by rw [st8_list, List.getElem?_append_left hr0]; exact hc0)) ?_
  walk_at "rd"
  refine s2 ⟨p, 3, rfl, rfl, by decide, by decide, D0.1, fun r1 H1 h2 h3 D1 => ?_⟩
  walk_at "rd"
  refine s2 ⟨p, 4, rfl, rfl, by decide, by decide, D1.1, fun r2 H2 _ _ D2 => ?_⟩
  walk_at "rd"
  have D02 : Off p H H2 := (D0.2.trans D1.2).trans D2.2
  -- from here: the sign so far, how many more
  have tail : ∀ (m : Int) (H3 : Hp), 0 ≤ m → m < 12 → Drawn H p H3 →
      (tSeq (tFor (iRng1 (tCons (tVar 3) tNil)) (gName 4)
  (tAsg (tOp (oAdd K) (tVar 2) (tOp (oIx K) (tVar 1) (tCall (sp__law_draw K A) [] E0 (tCons (tVar 0) (tCons (tC (.int 36)) tNil))))) (gName 2)))
  (tRet (tVar 2))) { nx := fun _ H' => Q .non H', rt := Q } [some (.ref p), some (.str (St8 (lets ++ digs))), some (.str (St8 [c0])), some (.int m), none] H3 := by
    intro m H3 hm0 hm1 D3
    walk_at "rd"
    refine q_for ?_
    walk_at "rd"
    refine q_cons (q_var rfl (q_nil ⟨m, rfl, by omega, by omega, ?_⟩))
    refine for_range (fun i σ H4 => ∃ (l : List Nat) (v : Option V), σ = [some (.ref p), some (.str (St8 (lets ++ digs))), some (.str (St8 l)), some (.int m), v] ∧ l.length = i + 1 ∧ (∃ r, l = c0 :: r) ∧ (∀ c ∈ l, c ∈ lets ++ digs) ∧ Drawn H p H4)
      ⟨[c0], _, rfl, rfl, ⟨[], rfl⟩, ?_, D3⟩ ?_ ?_
    · intro c hc
      rw [List.mem_singleton] at hc
      subst hc
      exact List.mem_append_left _ (List.mem_of_getElem? hc0)
    · rintro i σ H4 hi ⟨l, v, rfl, hl, ⟨r, hr⟩, ha, D4⟩
      walk_at "rd"
      refine s2 ⟨p, 36, rfl, rfl, by decide, by decide, D4.1, fun r3 H5 h4 h5 D5 => ?_⟩
      have hr3 : r3.toNat < (lets ++ digs).length := by show r3.toNat < 36; omega
      obtain ⟨c1, hc1⟩ : ∃ c, (lets ++ digs)[r3.toNat]? = some c := ⟨_, List.getElem?_eq_getElem hr3⟩
      refine q_ixS (c := c1) (by decide) (at_of h4 hc1) ?_
      refine q_addS (by rw [st8_len, hl]; show _ + 1 ≤ sizeLine; exact Nat.le_trans (show _ ≤ 100 by omega) (by decide)) ?_
      walk_at "rd"
      rw [st8_app l [c1]]
      refine ⟨l ++ [c1], _, rfl, by rw [List.length_append, hl]; rfl, ⟨r ++ [c1], by rw [hr]; rfl⟩, fun c hc => ?_, ⟨D5.1, D4.2.trans D5.2⟩⟩
      rcases List.mem_append.mp hc with hc | hc
      · exact ha c hc
      · rw [List.mem_singleton] at hc
        subst hc
        exact List.mem_of_getElem? hc1
    · rintro σ H4 ⟨l, v, rfl, hl, ⟨r, hr⟩, ha, D4⟩
      walk_at "rd"
      exact k l H4 ⟨⟨c0, r, hr, List.mem_of_getElem? hc0⟩, ha, by omega⟩ D4
  refine q_eqS rfl ?_
  walk_at "rd"
  refine q_dec (fun _ => ?_) (fun _ => ?_)
  · walk_at "rd"
    refine s2 ⟨p, 12, rfl, rfl, by decide, by decide, D2.1, fun r4 H4 h4 h5 D4 => ?_⟩
    exact tail r4 H4 h4 h5 ⟨D4.1, D02.trans D4.2⟩
  · exact tail r1 H2 h2 (by omega) ⟨D2.1, D02⟩
def sp__law_number (_ : PySem.W.Frag) (_ : Ad) : Sp := Sp1 fun x H Q _ => ∃ (p : Addr), x = .ref p ∧ Pool H p ∧ ∀ n H', 0 ≤ n → n < 1000 → Drawn H p H' → Q (.int n) H'
def t__law_number (K : PySem.W.Frag) (A : Ad) : TS :=
  (tSeq (tIfS (tTest (tOp (oEq K) (tCall (sp__law_draw K A) [] E0 (tCons (tVar 0) (tCons (tC (.int 3)) tNil))) (tC (.int 2))))
  (tRet (tCall (sp__law_draw K A) [] E0 (tCons (tVar 0) (tCons (tC (.int 1000)) tNil))))
  tNext)
  (tRet (tCall (sp__law_draw K A) [] E0 (tCons (tVar 0) (tCons (tC (.int 4)) tNil)))))
theorem pure__law_number {K : PySem.W.Frag} {A : Ad} {vs : List V} {H : Hp} {Q : VK} {E : XK} (h : sp__law_number K A vs H Q E) : t__law_number K A { nx := fun _ H' => Q .non H', rt := Q } (start ["_law_pool_here"] vs) H := by
  obtain ⟨_, rfl, p, rfl, P, k⟩ := h
  unfold t__law_number
  walk_at "rd"
  refine s2 ⟨p, 3, rfl, rfl, by decide, by decide, P, fun r0 H0 h0 h1 D0 => ?_⟩
  walk_at "rd"
  refine q_eqS rfl ?_
  walk_at "rd"
  refine q_dec (fun _ => ?_) (fun _ => ?_)
  · walk_at "rd"
    refine s2 ⟨p, 1000, rfl, rfl, by decide, by decide, D0.1, fun r1 H1 h2 h3 D1 => ?_⟩
    exact k r1 H1 h2 h3 ⟨D1.1, D0.2.trans D1.2⟩
  · walk_at "rd"
    refine s2 ⟨p, 4, rfl, rfl, by decide, by decide, D0.1, fun r1 H1 h2 h3 D1 => ?_⟩
    exact k r1 H1 h2 (by omega) ⟨D1.1, D0.2.trans D1.2⟩
/-! ### data as a whole, tracked -/
mutual
inductive Rp (H : Hp) : V → PyData → Prop
  | non : Rp H .non .none
  | bl (b : Bool) : Rp H (.bl b) (.bool b)
  | int (i : Int) : Rp H (.int i) (.int i)
  | str (x : Str) : Rp H (.str x) (.str x)
  | lst {a : Addr} {xs : List V} {ds : List PyData} : H a = some (.lst xs) → xs.length ≤ 1000000 → RpA H xs ds → Rp H (.ref a) (.list ds)
  | tup {a : Addr} {xs : List V} {ds : List PyData} : H a = some (.tup xs) → xs.length ≤ 1000000 → RpA H xs ds → Rp H (.ref a) (.tuple ds)
inductive RpA (H : Hp) : List V → List PyData → Prop
  | nil : RpA H [] []
  | cons {x : V} {d : PyData} {xs : List V} {ds : List PyData} : Rp H x d → RpA H xs ds → RpA H (x :: xs) (d :: ds)
end
theorem RpA.len {H : Hp} : ∀ {xs : List V} {ds : List PyData}, RpA H xs ds → xs.length = ds.length
  | _, _, .nil => rfl
  | _, _, .cons _ t => by rw [List.length_cons, List.length_cons, RpA.len t]
theorem RpA.get {H : Hp} : ∀ {xs : List V} {ds : List PyData} {i : Nat} {x : V}, RpA H xs ds → xs[i]? = some x → ∃ d, ds[i]? = some d ∧ Rp H x d
  | _, _, _, _, .nil, e => by cases e
  | _, _, 0, _, .cons r _, e => by
    cases e
    exact ⟨_, rfl, r⟩
  | _, _, i + 1, _, .cons _ t, e => by
    obtain ⟨d, h1, h2⟩ := RpA.get (i := i) t e
    exact ⟨d, h1, h2⟩
theorem RpA.at {H : Hp} {xs ys : List V} {ds : List PyData} {i : Nat} (a : RpA H xs ds) (b : RpA H ys ds) (hi : i < ds.length) : ∃ x y d, xs[i]? = some x ∧ ys[i]? = some y ∧ d ∈ ds ∧ Rp H x d ∧ Rp H y d := by
  have h1 : i < xs.length := by rw [a.len]; exact hi
  have h2 : i < ys.length := by rw [b.len]; exact hi
  obtain ⟨d, e1, r1⟩ := a.get (List.getElem?_eq_getElem h1)
  obtain ⟨d', e2, r2⟩ := b.get (List.getElem?_eq_getElem h2)
  rw [e1] at e2
  cases e2
  exact ⟨_, _, d, List.getElem?_eq_getElem h1, List.getElem?_eq_getElem h2, List.mem_of_getElem? e1, r1, r2⟩
theorem dep_mem : ∀ {ds : List PyData} {d : PyData}, d ∈ ds → d.depth ≤ PyData.depthAll ds
  | [], _, h => by cases h
  | x :: r, d, h => by
    show d.depth ≤ max x.depth (PyData.depthAll r)
    rcases List.mem_cons.mp h with h | h
    · rw [h]
      exact Nat.le_max_left _ _
    · exact Nat.le_trans (dep_mem h) (Nat.le_max_right _ _)
/-- the same data: True -/
def same_at (n : Nat) : Sp := Sp2 fun x y H Q _ => ∃ d, Rp H x d ∧ Rp H y d ∧ d.depth < n ∧ Q (.bl true) H
def t__law_same (K : PySem.W.Frag) (A : Ad) (rec : Sp) : TS :=
  (tSeq (tIfS (tTest (tOp oIsN (tVar 1) (tC .non)))
  (tRet (tOp oIsN (tVar 0) (tC .non)))
  tNext)
  (tSeq (tIfS (tB (tCB (cIsi K) (tCons (tVar 1) (tCons (tC (.ty "bool")) tNil))))
  (tRet (tAndV (tCB (cIsi K) (tCons (tVar 0) (tCons (tC (.ty "bool")) tNil))) (tOp (oEq K) (tVar 0) (tVar 1))))
  tNext)
  (tSeq (tIfS (tB (tCB (cIsi K) (tCons (tVar 1) (tCons (tC (.ty "int")) tNil))))
  (tRet (tAndV (tCB (cIsi K) (tCons (tVar 0) (tCons (tC (.ty "int")) tNil))) (tAndV (tNotV (tCB (cIsi K) (tCons (tVar 0) (tCons (tC (.ty "bool")) tNil)))) (tOp (oEq K) (tVar 0) (tVar 1)))))
  tNext)
  (tSeq (tIfS (tB (tCB (cIsi K) (tCons (tVar 1) (tCons (tC (.ty "str")) tNil))))
  (tRet (tAndV (tCB (cIsi K) (tCons (tVar 0) (tCons (tC (.ty "str")) tNil))) (tOp (oEq K) (tVar 0) (tVar 1))))
  tNext)
  (tSeq (tIfS (tAnd (tB (tCB (cIsi K) (tCons (tVar 1) (tCons (tC (.ty "tuple")) tNil)))) (tNot (tB (tCB (cIsi K) (tCons (tVar 0) (tCons (tC (.ty "tuple")) tNil))))))
  (tRet (tC (.bl false)))
  tNext)
  (tSeq (tIfS (tAnd (tB (tCB (cIsi K) (tCons (tVar 1) (tCons (tC (.ty "list")) tNil)))) (tNot (tB (tCB (cIsi K) (tCons (tVar 0) (tCons (tC (.ty "list")) tNil))))))
  (tRet (tC (.bl false)))
  tNext)
  (tSeq (tIfS (tTest (tOp (oNe K) (tCB (cLen K) (tCons (tVar 0) tNil)) (tCB (cLen K) (tCons (tVar 1) tNil))))
  (tRet (tC (.bl false)))
  tNext)
  (tSeq (tFor (iRng1 (tCons (tCB (cLen K) (tCons (tVar 1) tNil)) tNil)) (gName 2)
  (tIfS (tNot (tB (tCall rec [] E0 (tCons (tOp (oIx K) (tVar 0) (tVar 2)) (tCons (tOp (oIx K) (tVar 1) (tVar 2)) tNil)))))
  (tRet (tC (.bl false)))
  tNext))
  (tRet (tC (.bl true)))))))))))
theorem loop_same {K : PySem.W.Frag} {A : Ad} {n : Nat} {a b : Addr} {xs ys : List V} {ds : List PyData} {H : Hp} {Q : VK} {D : Ends} (hD : D.rt = Q) (ra : RpA H xs ds) (rb : RpA H ys ds) (hl : ys.length ≤ 1000000)
    (ha : SqL K H a xs ∨ SqT K H a xs) (hb : SqL K H b ys ∨ SqT K H b ys) (hd : PyData.depthAll ds < n) (k : Q (.bl true) H) {v : Option V}
    (hlen : ∀ Q' : VK, Q' (.int ys.length) H → cLen K [.ref b] H Q') :
    (tSeq (tFor (iRng1 (tCons (tCB (cLen K) (tCons (tVar 1) tNil)) tNil)) (gName 2)
  (tIfS (tNot (tB (tCall (same_at n) [] E0 (tCons (tOp (oIx K) (tVar 0) (tVar 2)) (tCons (tOp (oIx K) (tVar 1) (tVar 2)) tNil)))))
  (tRet (tC (.bl false)))
  tNext))
  (tRet (tC (.bl true)))) D [some (.ref a), some (.ref b), v] H := by
  subst hD
  walk_at "rd"
  refine q_for ?_
  refine q_cons (q_cb (q_cons (q_var rfl (q_nil (hlen _ ?_)))))
  refine q_nil ⟨_, rfl, by omega, by omega, ?_⟩
  refine for_range (fun i σ H4 => H4 = H ∧ ∃ v : Option V, σ = [some (.ref a), some (.ref b), v]) ⟨rfl, v, rfl⟩ ?_ ?_
  · rintro i σ H4 hi ⟨rfl, v, rfl⟩
    have hi' : i < ds.length := by rw [← rb.len]; omega
    obtain ⟨x, y, d, ex, ey, hm, rx, ry⟩ := ra.at rb hi'
    walk_at "rd"
    refine ⟨xs, x, ha, at_of (by omega) (by rw [show (0 + (i : Int)).toNat = i by omega]; exact ex), ?_⟩
    walk_at "rd"
    refine ⟨ys, y, hb, at_of (by omega) (by rw [show (0 + (i : Int)).toNat = i by omega]; exact ey), ?_⟩
    walk_at "rd"
    refine s2 ⟨d, rx, ry, Nat.lt_of_le_of_lt (dep_mem hm) hd, ?_⟩
    refine ⟨true, rfl, ?_⟩
    refine q_F ?_
    walk_at "rd"
    exact ⟨rfl, _, rfl⟩
  · rintro σ H4 ⟨rfl, v, rfl⟩
    walk_at "rd"
    exact k
theorem pure__law_same {K : PySem.W.Frag} {A : Ad} {n : Nat} {vs : List V} {H : Hp} {Q : VK} {E : XK} (h : same_at (n + 1) vs H Q E) : t__law_same K A (same_at n) { nx := fun _ H' => Q .non H', rt := Q } (start ["_law_actual", "_law_expected", "_law_k"] vs) H := by
  obtain ⟨x, y, rfl, d, rx, ry, hd, k⟩ := h
  have hT : ∀ n : String, n ∈ tyNames ↔ n = "bool" ∨ n = "int" ∨ n = "str" ∨ n = "tuple" ∨ n = "list" := fun n => by simp [tyNames]
  have t1 : "bool" ∈ tyNames := by simp [tyNames]
  have t2 : "int" ∈ tyNames := by simp [tyNames]
  have t3 : "str" ∈ tyNames := by simp [tyNames]
  have t4 : "tuple" ∈ tyNames := by simp [tyNames]
  have t5 : "list" ∈ tyNames := by simp [tyNames]
  unfold t__law_same
  walk_at "rd"
  cases ry with
  | non =>
    cases rx
    refine q_decT rfl ?_
    walk_at "rd"
    exact k
  | bl b =>
    cases rx
    refine q_decF (fun h => nomatch h) ?_
    walk_at "rd"
    refine q_isi true t1 rfl ?_
    walk_at "rd"
    refine q_T ?_
    walk_at "rd"
    refine q_isi true t1 rfl ?_
    refine ⟨true, rfl, q_T ?_⟩
    walk_at "rd"
    refine q_eqS rfl ?_
    rw [decide_eq_true rfl]
    exact k
  | int i =>
    cases rx
    refine q_decF (fun h => nomatch h) ?_
    walk_at "rd"
    refine q_isi false t1 rfl ?_
    walk_at "rd"
    refine q_F ?_
    walk_at "rd"
    refine q_isi true t2 rfl ?_
    walk_at "rd"
    refine q_T ?_
    walk_at "rd"
    refine q_isi true t2 rfl ?_
    refine ⟨true, rfl, q_T ?_⟩
    walk_at "rd"
    refine q_isi false t1 rfl ?_
    refine ⟨false, rfl, ?_⟩
    refine ⟨true, rfl, q_T ?_⟩
    walk_at "rd"
    refine q_eqS rfl ?_
    rw [decide_eq_true rfl]
    exact k
  | str z =>
    cases rx
    refine q_decF (fun h => nomatch h) ?_
    walk_at "rd"
    refine q_isi false t1 rfl ?_
    walk_at "rd"
    refine q_F ?_
    walk_at "rd"
    refine q_isi false t2 rfl ?_
    walk_at "rd"
    refine q_F ?_
    walk_at "rd"
    refine q_isi true t3 rfl ?_
    walk_at "rd"
    refine q_T ?_
    walk_at "rd"
    refine q_isi true t3 rfl ?_
    refine ⟨true, rfl, q_T ?_⟩
    walk_at "rd"
    refine q_eqS rfl ?_
    rw [decide_eq_true rfl]
    exact k
  | @lst b ys ds eb lb rb =>
    cases rx with
    | @lst a xs _ ea la ra =>
    refine q_decF (fun h => nomatch h) ?_
    walk_at "rd"
    refine q_isi false t1 (.inr ⟨⟨_, eb⟩, rfl⟩) ?_
    walk_at "rd"
    refine q_F ?_
    walk_at "rd"
    refine q_isi false t2 (.inr ⟨⟨_, eb⟩, rfl⟩) ?_
    walk_at "rd"
    refine q_F ?_
    walk_at "rd"
    refine q_isi false t3 (.inr ⟨⟨_, eb⟩, rfl⟩) ?_
    walk_at "rd"
    refine q_F ?_
    walk_at "rd"
    refine q_isi false t4 (.inr ⟨⟨_, eb⟩, rfl⟩) ?_
    walk_at "rd"
    refine q_F ?_
    refine q_F ?_
    walk_at "rd"
    refine q_isi true t5 (.inr ⟨⟨_, eb⟩, rfl⟩) ?_
    walk_at "rd"
    refine q_T ?_
    walk_at "rd"
    refine q_isi true t5 (.inr ⟨⟨_, ea⟩, rfl⟩) ?_
    refine ⟨true, rfl, ?_⟩
    refine q_F ?_
    walk_at "rd"
    refine q_lenL ea ?_
    walk_at "rd"
    refine q_lenL eb ?_
    refine q_neS rfl ?_
    refine ⟨_, rfl, ?_⟩
    rw [ra.len, rb.len, decide_eq_true rfl]
    refine q_F ?_
    refine q_next ?_
    exact loop_same (A := A) rfl ra rb lb (.inl (SqL.of ea)) (.inl (SqL.of eb)) (by have : PyData.depthAll ds + 1 < n + 1 := by { have e : (PyData.list ds).depth = PyData.depthAll ds + 1 := by { first | rfl | (simp [PyData.depth]) | (simp [PyData.depth]; omega) }; omega }; omega) k (fun Q' q => q_lenL eb q)
  | @tup b ys ds eb lb rb =>
    cases rx with
    | @tup a xs _ ea la ra =>
    refine q_decF (fun h => nomatch h) ?_
    walk_at "rd"
    refine q_isi false t1 (.inl ⟨⟨_, eb⟩, rfl⟩) ?_
    walk_at "rd"
    refine q_F ?_
    walk_at "rd"
    refine q_isi false t2 (.inl ⟨⟨_, eb⟩, rfl⟩) ?_
    walk_at "rd"
    refine q_F ?_
    walk_at "rd"
    refine q_isi false t3 (.inl ⟨⟨_, eb⟩, rfl⟩) ?_
    walk_at "rd"
    refine q_F ?_
    walk_at "rd"
    refine q_isi true t4 (.inl ⟨⟨_, eb⟩, rfl⟩) ?_
    walk_at "rd"
    refine q_T ?_
    walk_at "rd"
    refine q_isi true t4 (.inl ⟨⟨_, ea⟩, rfl⟩) ?_
    refine ⟨true, rfl, ?_⟩
    refine q_F ?_
    walk_at "rd"
    refine q_isi false t5 (.inl ⟨⟨_, eb⟩, rfl⟩) ?_
    walk_at "rd"
    refine q_F ?_
    refine q_F ?_
    walk_at "rd"
    refine q_lenT ea ?_
    walk_at "rd"
    refine q_lenT eb ?_
    refine q_neS rfl ?_
    refine ⟨_, rfl, ?_⟩
    rw [ra.len, rb.len, decide_eq_true rfl]
    refine q_F ?_
    refine q_next ?_
    exact loop_same (A := A) rfl ra rb lb (.inr (SqT.of ea)) (.inr (SqT.of eb)) (by have : PyData.depthAll ds + 1 < n + 1 := by { have e : (PyData.tuple ds).depth = PyData.depthAll ds + 1 := by { first | rfl | (simp [PyData.depth]) | (simp [PyData.depth]; omega) }; omega }; omega) k (fun Q' q => q_lenT eb q)
abbrev rec_law_same (n : Nat) : Sp := same_at n
theorem no_law_same {vs : List V} {H : Hp} {Q : VK} {E : XK} (h : same_at 0 vs H Q E) : False := by
  obtain ⟨_, _, _, d, _, _, hd, _⟩ := h
  exact Nat.not_lt_zero _ hd
end Ov

set_option Elab.async false
set_option linter.all false
set_option maxRecDepth 100000
namespace Ov
open PySem PySem.Spec PyProof.Rows L2
local macro_rules | `(tactic| walk_at "r1") => `(tactic| (first
  | with_reducible refine q_seq ?_ | with_reducible refine q_asg ?_ | with_reducible refine q_name ?_ | with_reducible refine q_ret ?_ | with_reducible refine q_drop ?_ | with_reducible refine q_next ?_
  | with_reducible refine q_ifS ?_ | with_reducible refine q_ifE ?_ | with_reducible refine q_op ?_ | with_reducible refine q_un ?_ | with_reducible refine q_test ?_ | with_reducible refine q_tB ?_ | with_reducible refine q_bl ?_
  | with_reducible refine q_c ?_ | with_reducible refine q_cons ?_ | with_reducible refine q_nil ?_ | with_reducible refine q_call ?_ | with_reducible refine q_cb ?_ | with_reducible refine q_gsub ?_
  | with_reducible refine q_sl ?_ | with_reducible refine q_noPart ?_ | with_reducible refine q_part ?_ | with_reducible refine q_int ?_
  | with_reducible refine q_addI ?_ | with_reducible refine q_subI ?_ | with_reducible refine q_ltI ?_ | with_reducible refine q_leI ?_ | with_reducible refine q_gtI ?_ | with_reducible refine q_geI ?_ | with_reducible refine q_negI ?_
  | with_reducible refine q_cIntI ?_ | with_reducible refine q_cAbs ?_ | with_reducible refine q_isN ?_ | with_reducible refine q_notN ?_
  | with_reducible refine q_and ?_ | with_reducible refine q_or ?_ | with_reducible refine q_not ?_ | with_reducible refine q_andV ?_ | with_reducible refine q_orV ?_ | with_reducible refine q_notV ?_
  | ((with_reducible show tVar _ _ _ _); refine q_var rfl ?_)))
local macro_rules | `(tactic| walk_at "rd") => `(tactic| repeat walk_at "r1")
local macro_rules | `(tactic| walk_at "mod") => `(tactic| with_reducible refine q_modI (by first | omega | decide) ?_)
/-! ### exits and kinds -/
def Tk (H H' : Hp) : Prop := ∀ q xs, H q = some (.tup xs) → H' q = some (.tup xs)
theorem Tk.refl {H : Hp} : Tk H H := fun _ _ h => h
theorem Tk.trans {H H1 H2 : Hp} (a : Tk H H1) (b : Tk H1 H2) : Tk H H2 := fun q xs h => b q xs (a q xs h)
theorem Tk.new {H : Hp} {q : Addr} {o : HO} (h : H q = none) : Tk H (upd H q o) := fun a xs e => by
  rw [upd_ne (ne_of_none e h)]
  exact e
theorem Tk.lst {H : Hp} {q : Addr} {o : HO} {xs : List V} (h : H q = some (.lst xs)) : Tk H (upd H q o) := fun a ys e => by
  rw [upd_ne (ne_of e h (by intro z; cases z))]
  exact e
theorem Tk.same {H H' : Hp} (s : Same H H') : Tk H H' := fun q xs h => s q _ h
theorem Tk.drawn {H H' : Hp} {p : Addr} (P : Pool H p) (D : Drawn H p H') : Tk H H' := fun q xs h => by
  obtain ⟨l, cs, a, b, c, d, hp, _⟩ := P
  exact D.2.to h (ne_of h hp (by intro z; cases z))
/-- a word and a flat value -/
def Two (H : Hp) (x : V) (w : Str) (k : Key) : Prop := ∃ q, x = .ref q ∧ H q = some (.tup [.str w, kV k])
def Exits (H : Hp) (xs : List V) : Prop := ∀ x ∈ xs, ∃ w k, Two H x w k
def Kind (H : Hp) (x : V) (kw : Str) (kz : Key) : Prop := ∃ q ks, x = .ref q ∧ H q = some (.tup ks) ∧ (ks = [.str kw] ∧ kw = "plain" ∨ ks = [.str kw, kV kz]) ∧ PyData.strOk kw = true
def Kinds (H : Hp) (xs : List V) : Prop := ∀ x ∈ xs, ∃ w k, Kind H x w k
theorem Two.tk {H H' : Hp} {x : V} {w : Str} {k : Key} (h : Two H x w k) (t : Tk H H') : Two H' x w k := by
  obtain ⟨q, e, h⟩ := h
  exact ⟨q, e, t _ _ h⟩
theorem Kind.tk {H H' : Hp} {x : V} {w : Str} {k : Key} (h : Kind H x w k) (t : Tk H H') : Kind H' x w k := by
  obtain ⟨q, ks, e, h, r⟩ := h
  exact ⟨q, ks, e, t _ _ h, r⟩
theorem Exits.tk {H H' : Hp} {xs : List V} (h : Exits H xs) (t : Tk H H') : Exits H' xs := fun x hx => by
  obtain ⟨w, k, h⟩ := h x hx
  exact ⟨w, k, h.tk t⟩
theorem Kinds.tk {H H' : Hp} {xs : List V} (h : Kinds H xs) (t : Tk H H') : Kinds H' xs := fun x hx => by
  obtain ⟨w, k, h⟩ := h x hx
  exact ⟨w, k, h.tk t⟩
theorem flatK (k : Key) : flatV (kV k) = true := by cases k <;> rfl
def kD : Key → PyData
  | .inl i => .int i
  | .inr x => .str x
theorem rpK (H : Hp) (k : Key) : Rp H (kV k) (kD k) := by cases k <;> constructor
theorem kD0 (k : Key) : (kD k).depth = 0 := by cases k <;> rfl
theorem Two.rp {H : Hp} {x : V} {w : Str} {k : Key} (h : Two H x w k) : Rp H x (.tuple [.str w, kD k]) := by
  obtain ⟨q, rfl, h⟩ := h
  exact .tup h (by show 2 ≤ 1000000; decide) (.cons (.str w) (.cons (rpK H k) .nil))
theorem two_dep (w : Str) (k : Key) : (PyData.tuple [.str w, kD k]).depth < 6 := by
  have e : (PyData.tuple [.str w, kD k]).depth = 1 := by simp [PyData.depth, PyData.depthAll, kD0]
  omega
/-- the state of an exit whose word is w -/
def stL (w : Str) : Str := if w = "raise" then "error" else "done"
def sp_state (_ : PySem.W.Frag) (_ : Ad) : Sp := Sp1 fun x H Q _ => ∃ w k, Two H x w k ∧ Q (.str (stL w)) H
def t_state (K : PySem.W.Frag) (A : Ad) : TS :=
  (tRet (tIf (tTest (tOp (oEq K) (tOp (oIx K) (tVar 0) (tC (.int 0))) (tC (.str "raise")))) (tC (.str "error")) (tC (.str "done"))))
theorem pure_state {K : PySem.W.Frag} {A : Ad} {vs : List V} {H : Hp} {Q : VK} {E : XK} (h : sp_state K A vs H Q E) : t_state K A { nx := fun _ H' => Q .non H', rt := Q } (start ["pending"] vs) H := by
  obtain ⟨_, rfl, w, z, ⟨q, rfl, hq⟩, k⟩ := h
  unfold t_state
  walk_at "rd"
  refine q_ixT hq rfl ?_
  walk_at "rd"
  refine q_eqS rfl ?_
  walk_at "rd"
  refine q_dec (fun e => ?_) (fun e => ?_)
  · walk_at "rd"
    have e' : w = "raise" := V.str.inj e
    rw [show stL w = "error" from if_pos e'] at k
    exact k
  · walk_at "rd"
    have e' : ¬ w = "raise" := fun z => e (congrArg V.str z)
    rw [show stL w = "done" from if_neg e'] at k
    exact k
abbrev sp__law_state := sp_state
def t__law_state (K : PySem.W.Frag) (A : Ad) : TS :=
  (tSeq (tIfS (tTest (tOp (oEq K) (tOp (oIx K) (tVar 0) (tC (.int 0))) (tC (.str "raise"))))
  (tRet (tC (.str "error")))
  tNext)
  (tRet (tC (.str "done"))))
theorem pure__law_state {K : PySem.W.Frag} {A : Ad} {vs : List V} {H : Hp} {Q : VK} {E : XK} (h : sp__law_state K A vs H Q E) : t__law_state K A { nx := fun _ H' => Q .non H', rt := Q } (start ["_law_pending"] vs) H := by
  obtain ⟨_, rfl, w, z, ⟨q, rfl, hq⟩, k⟩ := h
  unfold t__law_state
  walk_at "rd"
  refine q_ixT hq rfl ?_
  walk_at "rd"
  refine q_eqS rfl ?_
  walk_at "rd"
  refine q_dec (fun e => ?_) (fun e => ?_)
  · walk_at "rd"
    have e' : w = "raise" := V.str.inj e
    rw [show stL w = "error" from if_pos e'] at k
    exact k
  · walk_at "rd"
    have e' : ¬ w = "raise" := fun z => e (congrArg V.str z)
    rw [show stL w = "done" from if_neg e'] at k
    exact k
/-- the pending exit behind one question -/
def afW (kw g w : Str) (a : Int) : Str := if a = 0 then "raise" else if kw = "jump" then "leave" else if (kw = "answer" ∧ g = "done") ∨ (kw = "heal" ∧ g = "error") then "return" else if kw = "swap" ∧ g = "error" then "raise" else w
def afK (st : Str) (kw g : Str) (kz ky : Key) (a : Int) : Key := if a = 0 then .inr st else if kw = "jump" then kz else if (kw = "answer" ∧ g = "done") ∨ (kw = "heal" ∧ g = "error") then kz else if kw = "swap" ∧ g = "error" then kz else ky
def sp_after (_ : PySem.W.Frag) (_ : Ad) : Sp := Sp5 fun x1 x2 x3 x4 x5 H Q _ => ∃ w ky st kw kz g a, Two H x1 w ky ∧ x2 = .str st ∧ Kind H x3 kw kz ∧ x4 = .str g ∧ PyData.strOk g = true ∧ x5 = .int a ∧
  ∀ x H', Same H H' → Two H' x (afW kw g w a) (afK st kw g kz ky a) → Q x H'
theorem same_new {H : Hp} {p : Addr} {o : HO} (h : H p = none) : Same H (upd H p o) := fun b u e => by
  rw [upd_ne (ne_of_none e h)]
  exact e
def t__law_after (K : PySem.W.Frag) (A : Ad) : TS :=
  (tSeq (tIfS (tTest (tOp (oEq K) (tVar 4) (tC (.int 0))))
  (tRet (tTup (tCons (tC (.str "raise")) (tCons (tVar 1) tNil))))
  tNext)
  (tSeq (tIfS (tTest (tOp (oEq K) (tOp (oIx K) (tVar 2) (tC (.int 0))) (tC (.str "jump"))))
  (tRet (tTup (tCons (tC (.str "leave")) (tCons (tOp (oIx K) (tVar 2) (tC (.int 1))) tNil))))
  tNext)
  (tSeq (tIfS (tOr (tAnd (tTest (tOp (oEq K) (tOp (oIx K) (tVar 2) (tC (.int 0))) (tC (.str "answer")))) (tTest (tOp (oEq K) (tVar 3) (tC (.str "done"))))) (tAnd (tTest (tOp (oEq K) (tOp (oIx K) (tVar 2) (tC (.int 0))) (tC (.str "heal")))) (tTest (tOp (oEq K) (tVar 3) (tC (.str "error"))))))
  (tRet (tTup (tCons (tC (.str "return")) (tCons (tOp (oIx K) (tVar 2) (tC (.int 1))) tNil))))
  tNext)
  (tSeq (tIfS (tAnd (tTest (tOp (oEq K) (tOp (oIx K) (tVar 2) (tC (.int 0))) (tC (.str "swap")))) (tTest (tOp (oEq K) (tVar 3) (tC (.str "error")))))
  (tRet (tTup (tCons (tC (.str "raise")) (tCons (tOp (oIx K) (tVar 2) (tC (.int 1))) tNil))))
  tNext)
  (tRet (tVar 0))))))
abbrev sp__law_after := sp_after
theorem kind_two {kw : Str} {kz : Key} {ks : List V} (hk : ks = [.str kw] ∧ kw = "plain" ∨ ks = [.str kw, kV kz]) (h : kw ≠ "plain") : ks = [.str kw, kV kz] := by
  rcases hk with ⟨_, e⟩ | e
  · exact absurd e h
  · exact e
theorem kind_fst {kw : Str} {kz : Key} {ks : List V} (hk : ks = [.str kw] ∧ kw = "plain" ∨ ks = [.str kw, kV kz]) : atI ks 0 = some (.str kw) := by
  rcases hk with ⟨e, _⟩ | e <;> rw [e] <;> rfl
theorem pure__law_after {K : PySem.W.Frag} {A : Ad} {vs : List V} {H : Hp} {Q : VK} {E : XK} (h : sp__law_after K A vs H Q E) : t__law_after K A { nx := fun _ H' => Q .non H', rt := Q } (start ["_law_pending", "_law_step", "_law_kind", "_law_guard", "_law_answer"] vs) H := by
  obtain ⟨_, _, _, _, _, rfl, w, ky, st, kw, kz, g, a, ⟨q, rfl, hq⟩, rfl, ⟨kp, ks, rfl, hkp, hks, hkw⟩, rfl, hg, rfl, k⟩ := h
  have fin : ∀ p x z, H p = none → afW kw g w a = x → afK st kw g kz ky a = z → Q (.ref p) (upd H p (.tup [.str x, kV z])) := fun p x z hp e1 e2 => by
    refine k _ _ (same_new hp) ⟨p, rfl, ?_⟩
    rw [e1, e2]
    exact upd_same
  unfold t__law_after
  walk_at "rd"
  refine q_eqS rfl ?_
  walk_at "rd"
  refine q_dec (fun e => ?_) (fun ea => ?_)
  · have e' : a = 0 := V.int.inj e
    walk_at "rd"
    refine q_tup ?_
    walk_at "rd"
    refine ⟨by show 2 ≤ sizeLine; decide, fun p hp => fin p "raise" (.inr st) hp (if_pos e') (if_pos e')⟩
  have ea' : ¬ a = 0 := fun z => ea (congrArg V.int z)
  walk_at "rd"
  refine q_ixT hkp (kind_fst hks) ?_
  walk_at "rd"
  refine q_eqS rfl ?_
  walk_at "rd"
  refine q_dec (fun e => ?_) (fun ej => ?_)
  · have e' : kw = "jump" := V.str.inj e
    have h2 := kind_two hks (by rw [e']; decide)
    walk_at "rd"
    refine q_tup ?_
    walk_at "rd"
    refine q_ixT (v := kV kz) hkp (by rw [h2]; rfl) ?_
    walk_at "rd"
    refine ⟨by show 2 ≤ sizeLine; decide, fun p hp => fin p "leave" kz hp ?_ ?_⟩
    · unfold afW; rw [if_neg ea', if_pos e']
    · unfold afK; rw [if_neg ea', if_pos e']
  have ej' : ¬ kw = "jump" := fun z => ej (congrArg V.str z)
  refine q_next (q_seq ?_)
  refine q_ifA (an_or (an_and (an_test (va_eqS (va_ixT (va_var rfl) va_c hkp (kind_fst hks)) va_c rfl)) fun _ => an_test (va_eqS (va_var rfl) va_c rfl))
    fun _ => an_and (an_test (va_eqS (va_ixT (va_var rfl) va_c hkp (kind_fst hks)) va_c rfl)) fun _ => an_test (va_eqS (va_var rfl) va_c rfl)) (fun e => ?_) (fun e => ?_)
  · have e : (kw = "answer" ∧ g = "done") ∨ (kw = "heal" ∧ g = "error") := by simpa using e
    have hne : kw ≠ "plain" := by rcases e with ⟨e, _⟩ | ⟨e, _⟩ <;> rw [e] <;> decide
    have h2 := kind_two hks hne
    walk_at "rd"
    refine q_tup ?_
    walk_at "rd"
    refine q_ixT (v := kV kz) hkp (by rw [h2]; rfl) ?_
    walk_at "rd"
    refine ⟨by show 2 ≤ sizeLine; decide, fun p hp => fin p "return" kz hp ?_ ?_⟩
    · unfold afW; rw [if_neg ea', if_neg ej', if_pos e]
    · unfold afK; rw [if_neg ea', if_neg ej', if_pos e]
  have e : ¬ ((kw = "answer" ∧ g = "done") ∨ (kw = "heal" ∧ g = "error")) := fun z => by
    have z' : ((decide (V.str kw = V.str "answer") && decide (V.str g = V.str "done")) || (decide (V.str kw = V.str "heal") && decide (V.str g = V.str "error"))) = true := by simpa using z
    rw [z'] at e
    cases e
  refine q_next (q_seq ?_)
  refine q_ifA (an_and (an_test (va_eqS (va_ixT (va_var rfl) va_c hkp (kind_fst hks)) va_c rfl)) fun _ => an_test (va_eqS (va_var rfl) va_c rfl)) (fun e1 => ?_) (fun e1 => ?_)
  · have e1 : kw = "swap" ∧ g = "error" := by simpa using e1
    have h2 := kind_two hks (by rw [e1.1]; decide)
    walk_at "rd"
    refine q_tup ?_
    walk_at "rd"
    refine q_ixT (v := kV kz) hkp (by rw [h2]; rfl) ?_
    walk_at "rd"
    refine ⟨by show 2 ≤ sizeLine; decide, fun p hp => fin p "raise" kz hp ?_ ?_⟩
    · unfold afW; rw [if_neg ea', if_neg ej', if_neg e, if_pos e1]
    · unfold afK; rw [if_neg ea', if_neg ej', if_neg e, if_pos e1]
  have e1 : ¬ (kw = "swap" ∧ g = "error") := fun z => by
    have z' : (decide (V.str kw = V.str "swap") && decide (V.str g = V.str "error")) = true := by simpa using z
    rw [z'] at e1
    cases e1
  walk_at "rd"
  refine k _ _ (Same.refl _) ⟨q, rfl, ?_⟩
  unfold afW afK
  rw [if_neg ea', if_neg ej', if_neg e, if_neg e1, if_neg ea', if_neg ej', if_neg e, if_neg e1]
  exact hq
theorem shaped2 {a b : Str} (ha : PyData.strOk a = true) (hb : PyData.strOk b = true) : SeqAt.shaped (.tuple [.str a, .str b]) = true := by
  simp [SeqAt.shaped, PyData.canLay0, PyData.canLayAll0, PyData.depth, PyData.depthAll, ha, hb]
theorem dp2 {K : PySem.W.Frag} {H : Hp} {p : Addr} {a b : Str} (h : H p = some (.tup [.str a, .str b])) : Dp K H (.ref p) (.tuple [.str a, .str b]) := .tup (SqT.of h) (.cons (.str a) (.cons (.str b) .nil))
theorem eqv2 (a b c d : Str) : PyData.eqv (.tuple [.str a, .str b]) (.tuple [.str c, .str d]) = (decide (a = c) && decide (b = d)) := by
  simp [PyData.eqv, PyData.eqvAll, Bool.beq_eq_decide_eq]
def t_after (K : PySem.W.Frag) (A : Ad) : TS :=
  (tSeq (tIfS (tTest (tOp (oEq K) (tVar 4) (tC (.int 0))))
  (tRet (tTup (tCons (tC (.str "raise")) (tCons (tVar 1) tNil))))
  tNext)
  (tSeq (tAsg (tOp (oIx K) (tVar 2) (tC (.int 0))) (gName 5))
  (tSeq (tIfS (tTest (tOp (oEq K) (tVar 5) (tC (.str "jump"))))
  (tRet (tTup (tCons (tC (.str "leave")) (tCons (tOp (oIx K) (tVar 2) (tC (.int 1))) tNil))))
  tNext)
  (tSeq (tIfS (tTest (tOp (oIn K) (tTup (tCons (tVar 5) (tCons (tVar 3) tNil))) (tTup (tCons (tTup (tCons (tC (.str "answer")) (tCons (tC (.str "done")) tNil))) (tCons (tTup (tCons (tC (.str "heal")) (tCons (tC (.str "error")) tNil))) tNil)))))
  (tRet (tTup (tCons (tC (.str "return")) (tCons (tOp (oIx K) (tVar 2) (tC (.int 1))) tNil))))
  tNext)
  (tSeq (tIfS (tTest (tOp (oEq K) (tTup (tCons (tVar 5) (tCons (tVar 3) tNil))) (tTup (tCons (tC (.str "swap")) (tCons (tC (.str "error")) tNil)))))
  (tRet (tTup (tCons (tC (.str "raise")) (tCons (tOp (oIx K) (tVar 2) (tC (.int 1))) tNil))))
  tNext)
  (tRet (tVar 0)))))))
theorem pure_after {K : PySem.W.Frag} {A : Ad} {vs : List V} {H : Hp} {Q : VK} {E : XK} (h : sp_after K A vs H Q E) : t_after K A { nx := fun _ H' => Q .non H', rt := Q } (start ["pending", "step", "kind", "guard", "answer", "word"] vs) H := by
  obtain ⟨_, _, _, _, _, rfl, w, ky, st, kw, kz, g, a, ⟨q, rfl, hq⟩, rfl, ⟨kp, ks, rfl, hkp, hks, hkw⟩, rfl, hg, rfl, k⟩ := h
  have fin : ∀ p x z H1, Same H H1 → H1 p = none → afW kw g w a = x → afK st kw g kz ky a = z → Q (.ref p) (upd H1 p (.tup [.str x, kV z])) := fun p x z H1 s hp e1 e2 => by
    refine k _ _ (s.trans (same_new hp)) ⟨p, rfl, ?_⟩
    rw [e1, e2]
    exact upd_same
  unfold t_after
  refine q_seq (q_ifA (an_test (va_eqS (va_var rfl) va_c rfl)) (fun e => ?_) (fun ea => ?_))
  · have e' : a = 0 := V.int.inj (of_decide_eq_true e)
    walk_at "rd"
    refine q_tup ?_
    walk_at "rd"
    exact ⟨by show 2 ≤ sizeLine; decide, fun p hp => fin p "raise" (.inr st) H (Same.refl _) hp (if_pos e') (if_pos e')⟩
  have ea' : ¬ a = 0 := fun z => of_decide_eq_false ea (congrArg V.int z)
  walk_at "rd"
  refine q_ixT hkp (kind_fst hks) ?_
  refine q_name (q_seq ?_)
  refine q_ifA (an_test (va_eqS (va_var rfl) va_c rfl)) (fun e => ?_) (fun ej => ?_)
  · have e' : kw = "jump" := V.str.inj (of_decide_eq_true e)
    have h2 := kind_two hks (by rw [e']; decide)
    walk_at "rd"
    refine q_tup ?_
    walk_at "rd"
    refine q_ixT (v := kV kz) hkp (by rw [h2]; rfl) ?_
    walk_at "rd"
    refine ⟨by show 2 ≤ sizeLine; decide, fun p hp => fin p "leave" kz H (Same.refl _) hp ?_ ?_⟩
    · unfold afW; rw [if_neg ea', if_pos e']
    · unfold afK; rw [if_neg ea', if_pos e']
  have ej' : ¬ kw = "jump" := fun z => of_decide_eq_false ej (congrArg V.str z)
  walk_at "rd"
  refine q_tup ?_
  walk_at "rd"
  refine ⟨by show 2 ≤ sizeLine; decide, fun p1 h1 => ?_⟩
  refine q_tup ?_
  refine q_cons (q_tup ?_)
  walk_at "rd"
  refine ⟨by show 2 ≤ sizeLine; decide, fun p2 h2 => ?_⟩
  refine q_cons (q_tup ?_)
  walk_at "rd"
  refine ⟨by show 2 ≤ sizeLine; decide, fun p3 h3 => ?_⟩
  walk_at "rd"
  refine ⟨by show 2 ≤ sizeLine; decide, fun p4 h4 => ?_⟩
  -- four new tuples
  have S1 := same_new (o := .tup [.str kw, .str g]) h1
  have S2 := same_new (o := .tup [.str "answer", .str "done"]) h2
  have S3 := same_new (o := .tup [.str "heal", .str "error"]) h3
  have S4 := same_new (o := .tup [.ref p2, .ref p3]) h4
  have S : Same H _ := ((S1.trans S2).trans S3).trans S4
  refine q_inD (d := .tuple [.str kw, .str g]) (ds := [.tuple [.str "answer", .str "done"], .tuple [.str "heal", .str "error"]]) (dp2 ?_) (.inl (.tup (SqT.of upd_same) (.cons (dp2 ?_) (.cons (dp2 ?_) .nil)))) (shaped2 hkw hg) (by decide +kernel) ?_
  · exact S4 _ _ (S3 _ _ (S2 _ _ upd_same))
  · exact S4 _ _ (S3 _ _ upd_same)
  · exact S4 _ _ upd_same
  generalize upd (upd (upd (upd H p1 (.tup [.str kw, .str g])) p2 (.tup [.str "answer", .str "done"])) p3 (.tup [.str "heal", .str "error"])) p4 (.tup [.ref p2, .ref p3]) = H4 at S ⊢
  refine ⟨_, rfl, ?_⟩
  rw [show ([PyData.tuple [.str "answer", .str "done"], .tuple [.str "heal", .str "error"]].any fun z => PyData.eqv z (.tuple [.str kw, .str g])) = decide ((kw = "answer" ∧ g = "done") ∨ (kw = "heal" ∧ g = "error")) by
    rw [List.any_cons, List.any_cons, List.any_nil, eqv2, eqv2, Bool.or_false, ← Bool.decide_and, ← Bool.decide_and, ← Bool.decide_or]
    congr 1
    simp only [eq_comm]]
  refine q_dec (fun e => ?_) (fun e => ?_)
  · have hne : kw ≠ "plain" := by rcases e with ⟨e, _⟩ | ⟨e, _⟩ <;> rw [e] <;> decide
    have h2 := kind_two hks hne
    walk_at "rd"
    refine q_tup ?_
    walk_at "rd"
    refine q_ixT (v := kV kz) (S _ _ hkp) (by rw [h2]; rfl) ?_
    walk_at "rd"
    refine ⟨by show 2 ≤ sizeLine; decide, fun p hp => fin p "return" kz H4 S hp ?_ ?_⟩
    · unfold afW; rw [if_neg ea', if_neg ej', if_pos e]
    · unfold afK; rw [if_neg ea', if_neg ej', if_pos e]
  walk_at "rd"
  refine q_tup ?_
  walk_at "rd"
  refine ⟨by show 2 ≤ sizeLine; decide, fun p5 h5 => ?_⟩
  refine q_tup ?_
  walk_at "rd"
  refine ⟨by show 2 ≤ sizeLine; decide, fun p6 h6 => ?_⟩
  have S5 := same_new (o := .tup [.str kw, .str g]) h5
  have S6 := same_new (o := .tup [.str "swap", .str "error"]) h6
  have S' : Same H _ := (S.trans S5).trans S6
  refine q_eqD (d := .tuple [.str kw, .str g]) (e := .tuple [.str "swap", .str "error"]) (dp2 (S6 _ _ upd_same)) (dp2 upd_same) (shaped2 hkw hg) (shaped2 (by decide +kernel) (by decide +kernel)) ?_
  generalize upd (upd H4 p5 (.tup [.str kw, .str g])) p6 (.tup [.str "swap", .str "error"]) = H6 at S' ⊢
  refine ⟨_, rfl, ?_⟩
  rw [eqv2, ← Bool.decide_and]
  refine q_dec (fun e1 => ?_) (fun e1 => ?_)
  · have h2 := kind_two hks (by rw [e1.1]; decide)
    walk_at "rd"
    refine q_tup ?_
    walk_at "rd"
    refine q_ixT (v := kV kz) (S' _ _ hkp) (by rw [h2]; rfl) ?_
    walk_at "rd"
    refine ⟨by show 2 ≤ sizeLine; decide, fun p hp => fin p "raise" kz H6 S' hp ?_ ?_⟩
    · unfold afW; rw [if_neg ea', if_neg ej', if_neg e, if_pos e1]
    · unfold afK; rw [if_neg ea', if_neg ej', if_neg e, if_pos e1]
  walk_at "rd"
  refine k _ _ S' ⟨q, rfl, ?_⟩
  unfold afW afK
  rw [if_neg ea', if_neg ej', if_neg e, if_neg e1, if_neg ea', if_neg ej', if_neg e, if_neg e1]
  exact S' _ _ hq
def spLaw (K : PySem.W.Frag) : Sp := Sp1 fun x H Q _ => ∃ (a : Addr) (ns : List Int), x = .ref a ∧ SqL K H a (ns.map V.int) ∧ ns.length ≤ 63 ∧ ∀ H', Q (.bl true) H'
theorem law_start (K : PySem.W.Frag) (H : Hp) (a : Addr) (ns : List Int) (hl : ns.length ≤ 63) (_ : Only H) (hS : SqL K H a (ns.map V.int)) : spLaw K [.ref a] H (fun v _ => v = .bl true) fun _ _ _ => False := ⟨_, rfl, a, ns, rfl, hS, hl, fun _ => rfl⟩
abbrev sp_law (K : PySem.W.Frag) (_ : Ad) : Sp := spLaw K
abbrev sp__law_same (_ : PySem.W.Frag) (_ : Ad) : Sp := same_at 6
def t_law (K : PySem.W.Frag) (A : Ad) : TS :=
  (tSeq (tAsg (tCall (sp__law_pool K A) [] E0 (tCons (tVar 0) tNil)) (gName 1))
  (tSeq (tAsg (tCall (sp__law_name K A) [] E0 (tCons (tVar 1) tNil)) (gName 2))
  (tSeq (tAsg (tLst (tCons (tTup (tCons (tC (.str "return")) (tCons (tCall (sp__law_number K A) [] E0 (tCons (tVar 1) tNil)) tNil))) (tCons (tTup (tCons (tC (.str "leave")) (tCons (tCall (sp__law_name K A) [] E0 (tCons (tVar 1) tNil)) tNil))) (tCons (tTup (tCons (tC (.str "raise")) (tCons (tCall (sp__law_name K A) [] E0 (tCons (tVar 1) tNil)) tNil))) (tCons (tTup (tCons (tC (.str "leave")) (tCons (tVar 2) tNil))) tNil))))) (gName 3))
  (tSeq (tDrop (tBM K "list" rAppend (tVar 3) (tCons (tTup (tCons (tC (.str "raise")) (tCons (tVar 2) tNil))) tNil)))
  (tSeq (tAsg (tLst (tCons (tTup (tCons (tC (.str "plain")) tNil)) (tCons (tTup (tCons (tC (.str "answer")) (tCons (tCall (sp__law_number K A) [] E0 (tCons (tVar 1) tNil)) tNil))) (tCons (tTup (tCons (tC (.str "jump")) (tCons (tCall (sp__law_name K A) [] E0 (tCons (tVar 1) tNil)) tNil))) (tCons (tTup (tCons (tC (.str "heal")) (tCons (tCall (sp__law_number K A) [] E0 (tCons (tVar 1) tNil)) tNil))) tNil))))) (gName 4))
  (tSeq (tDrop (tBM K "list" rAppend (tVar 4) (tCons (tTup (tCons (tC (.str "swap")) (tCons (tCall (sp__law_name K A) [] E0 (tCons (tVar 1) tNil)) tNil))) tNil)))
  (tSeq (tFor (iRng1 (tCons (tC (.int 2)) tNil)) (gName 5)
  (tFor (iAny K (tVar 3)) (gName 6)
  (tSeq (tAsg (tCall (sp__law_state K A) [] E0 (tCons (tVar 6) tNil)) (gName 7))
  (tSeq (tIfS (tNot (tB (tCall (sp__law_same K A) [] E0 (tCons (tCall (sp_state K A) [] E0 (tCons (tVar 6) tNil)) (tCons (tVar 7) tNil)))))
  (tRet (tC (.bl false)))
  tNext)
  (tFor (iAny K (tVar 4)) (gName 8)
  (tFor (iAny K (tLst (tCons (tC (.int 1)) (tCons (tC (.int 0)) tNil)))) (gName 9)
  (tSeq (tAsg (tCall (sp__law_after K A) [] E0 (tCons (tVar 6) (tCons (tVar 2) (tCons (tVar 8) (tCons (tVar 7) (tCons (tVar 9) tNil)))))) (gName 10))
  (tIfS (tNot (tB (tCall (sp__law_same K A) [] E0 (tCons (tCall (sp_after K A) [] E0 (tCons (tVar 6) (tCons (tVar 2) (tCons (tVar 8) (tCons (tVar 7) (tCons (tVar 9) tNil)))))) (tCons (tVar 10) tNil)))))
  (tRet (tC (.bl false)))
  tNext))))))))
  (tRet (tC (.bl true))))))))))
theorem stL_ok (w : Str) : PyData.strOk (stL w) = true := by
  unfold stL
  split <;> decide +kernel
theorem exit_cons {H : Hp} {x : V} {xs : List V} {w : Str} {k : Key} (h : Two H x w k) (t : Exits H xs) : Exits H (x :: xs) := fun y hy => by
  rcases List.mem_cons.mp hy with rfl | hy
  · exact ⟨w, k, h⟩
  · exact t y hy
theorem kind_cons {H : Hp} {x : V} {xs : List V} {w : Str} {k : Key} (h : Kind H x w k) (t : Kinds H xs) : Kinds H (x :: xs) := fun y hy => by
  rcases List.mem_cons.mp hy with rfl | hy
  · exact ⟨w, k, h⟩
  · exact t y hy
theorem two_new {H : Hp} {p : Addr} {w : Str} {k : Key} : Two (upd H p (.tup [.str w, kV k])) (.ref p) w k := ⟨p, rfl, upd_same⟩
theorem kind_new {H : Hp} {p : Addr} {w : Str} {k : Key} (hw : PyData.strOk w = true) : Kind (upd H p (.tup [.str w, kV k])) (.ref p) w k := ⟨p, _, rfl, upd_same, .inr rfl, hw⟩
/-- the turns over the answers, the kinds, the exits -/
theorem turns {K : PySem.W.Frag} {A : Ad} {D : Ends} {HB H : Hp} {scr p e kd : V} {stp : Str} {ae ak : Addr} {xs ys : List V} (he : e = .ref ae) (hk : kd = .ref ak) (hE : HB ae = some (.lst xs)) (hK : HB ak = some (.lst ys)) (EX : Exits HB xs) (KI : Kinds HB ys)
    (s : Same HB H) (v5 v6 v7 v8 v9 v10 : Option V) (hD : ∀ H' v5 v6 v7 v8 v9 v10, Same HB H' → D.nx [some scr, some p, some (.str stp), some e, some kd, v5, v6, v7, v8, v9, v10] H') :
    (tFor (iRng1 (tCons (tC (.int 2)) tNil)) (gName 5)
  (tFor (iAny K (tVar 3)) (gName 6)
  (tSeq (tAsg (tCall (sp__law_state K A) [] E0 (tCons (tVar 6) tNil)) (gName 7))
  (tSeq (tIfS (tNot (tB (tCall (sp__law_same K A) [] E0 (tCons (tCall (sp_state K A) [] E0 (tCons (tVar 6) tNil)) (tCons (tVar 7) tNil)))))
  (tRet (tC (.bl false)))
  tNext)
  (tFor (iAny K (tVar 4)) (gName 8)
  (tFor (iAny K (tLst (tCons (tC (.int 1)) (tCons (tC (.int 0)) tNil)))) (gName 9)
  (tSeq (tAsg (tCall (sp__law_after K A) [] E0 (tCons (tVar 6) (tCons (tVar 2) (tCons (tVar 8) (tCons (tVar 7) (tCons (tVar 9) tNil)))))) (gName 10))
  (tIfS (tNot (tB (tCall (sp__law_same K A) [] E0 (tCons (tCall (sp_after K A) [] E0 (tCons (tVar 6) (tCons (tVar 2) (tCons (tVar 8) (tCons (tVar 7) (tCons (tVar 9) tNil)))))) (tCons (tVar 10) tNil)))))
  (tRet (tC (.bl false)))
  tNext)))))))) D [some scr, some p, some (.str stp), some e, some kd, v5, v6, v7, v8, v9, v10] H := by
  subst he hk
  refine q_forR va_c (by decide) (by decide) (fun i σ H' => Same HB H' ∧ ∃ v5 v6 v7 v8 v9 v10, σ = [some scr, some p, some (.str stp), some (.ref ae), some (.ref ak), v5, v6, v7, v8, v9, v10]) ⟨s, _, _, _, _, _, _, rfl⟩ ?_ ?_
  · rintro i σ H' _ ⟨s, v5, v6, v7, v8, v9, v10, rfl⟩
    -- for pending in exits
    refine q_name (q_forL rfl (xs := xs) (fun i σ H' => Same HB H' ∧ ∃ v5 v6 v7 v8 v9 v10, σ = [some scr, some p, some (.str stp), some (.ref ae), some (.ref ak), v5, v6, v7, v8, v9, v10]) ⟨s, _, _, _, _, _, _, rfl⟩
      (fun _ _ _ _ ⟨s, _⟩ => SqL.of (s _ _ hE)) ?_ ?_)
    · rintro i x σ H' hx ⟨s, v5, v6, v7, v8, v9, v10, rfl⟩
      obtain ⟨w, ky, hB⟩ := EX x (List.mem_of_getElem? hx)
      have hT := hB.tk (Tk.same s)
      walk_at "rd"
      refine s1 ⟨w, ky, hT, ?_⟩
      walk_at "rd"
      refine s1 ⟨w, ky, hT, ?_⟩
      walk_at "rd"
      refine s2 ⟨.str (stL w), .str _, .str _, (by show 0 < 6; decide), ?_⟩
      refine ⟨true, rfl, q_F ?_⟩
      walk_at "rd"
      -- for kind in kinds
      refine q_forL rfl (xs := ys) (fun i σ H' => Same HB H' ∧ ∃ v5 v8 v9 v10, σ = [some scr, some p, some (.str stp), some (.ref ae), some (.ref ak), v5, some x, some (.str (stL w)), v8, v9, v10]) ⟨s, _, _, _, _, rfl⟩
        (fun _ _ _ _ ⟨s, _⟩ => SqL.of (s _ _ hK)) ?_ ?_
      · rintro i y σ H' hy ⟨s, v5, v8, v9, v10, rfl⟩
        obtain ⟨kw, kz, hBK⟩ := KI y (List.mem_of_getElem? hy)
        -- for answer in [1, 0]
        refine q_name (q_forN ?_ ?_)
        · walk_at "rd"
          refine ⟨by show 2 ≤ sizeLine; decide, fun l hl => ?_⟩
          refine ⟨fun i σ H' => Same HB H' ∧ H' l = some (.lst [.int 1, .int 0]) ∧ ∃ v5 v9 v10, σ = [some scr, some p, some (.str stp), some (.ref ae), some (.ref ak), v5, some x, some (.str (stL w)), some y, v9, v10],
            ⟨s.trans (same_new hl), upd_same, _, _, _, rfl⟩, fun _ _ _ _ ⟨_, h, _⟩ => SqL.of h, ?_, ?_⟩
          · rintro i z σ H' hz ⟨s, hl, v5, v9, v10, rfl⟩
            obtain ⟨a, rfl⟩ : ∃ a : Int, z = .int a := by
              have hm := List.mem_of_getElem? hz
              simp only [List.mem_cons, List.not_mem_nil, or_false] at hm
              rcases hm with rfl | rfl <;> exact ⟨_, rfl⟩
            have hT := hB.tk (Tk.same s)
            have hKi := hBK.tk (Tk.same s)
            walk_at "rd"
            refine s5 ⟨w, ky, stp, kw, kz, stL w, a, hT, rfl, hKi, rfl, stL_ok w, rfl, fun r H1 s1 h1 => ?_⟩
            walk_at "rd"
            refine s5 ⟨w, ky, stp, kw, kz, stL w, a, hT.tk (Tk.same s1), rfl, hKi.tk (Tk.same s1), rfl, stL_ok w, rfl, fun r2 H2 s2' h2 => ?_⟩
            walk_at "rd"
            refine s2 ⟨_, h2.rp, (h1.tk (Tk.same s2')).rp, two_dep _ _, ?_⟩
            refine ⟨true, rfl, q_F ?_⟩
            refine q_next ⟨(s.trans s1).trans s2', s2' _ _ (s1 _ _ hl), _, _, _, rfl⟩
          · rintro σ H' ⟨s, hl, v5, v9, v10, rfl⟩
            exact ⟨s, _, _, _, _, rfl⟩
        · intro Q Q' m h
          exact m _ _ h
      · rintro σ H' ⟨s, v5, v8, v9, v10, rfl⟩
        exact ⟨s, _, _, _, _, _, _, rfl⟩
    · rintro σ H' ⟨s, v5, v6, v7, v8, v9, v10, rfl⟩
      exact ⟨s, _, _, _, _, _, _, rfl⟩
  · rintro σ H' ⟨s, v5, v6, v7, v8, v9, v10, rfl⟩
    exact hD _ _ _ _ _ _ _ s
theorem Pool.ne2 {H : Hp} {p q : Addr} {x y : Addr} {r : List V} (P : Pool H p) (h : H q = some (.lst (.ref x :: .ref y :: r))) : q ≠ p := by
  obtain ⟨l, cs, a, b, c, d, hp, _⟩ := P
  exact ne_of h hp (by intro z; cases z)
theorem Pool.lst {H : Hp} {p q : Addr} {x y : Addr} {r ys : List V} (P : Pool H p) (h : H q = some (.lst (.ref x :: .ref y :: r))) : Pool (upd H q (.lst ys)) p := by
  have hq := P.ne2 h
  obtain ⟨l, cs, a, b, c, d, hp, hl, ne, z⟩ := P
  have hql : q ≠ l := ne_of h hl (by intro e; cases cs <;> cases e)
  exact ⟨l, cs, a, b, c, d, by rw [upd_ne (Ne.symm hq)]; exact hp, by rw [upd_ne (Ne.symm hql)]; exact hl, ne, z⟩
theorem Pool.keep2 {H H' : Hp} {p q : Addr} {x y : Addr} {r : List V} (P : Pool H p) (D : Drawn H p H') (h : H q = some (.lst (.ref x :: .ref y :: r))) : H' q = some (.lst (.ref x :: .ref y :: r)) := D.2.to h (P.ne2 h)
theorem tyL {K : PySem.W.Frag} {H : Hp} {p : Addr} {xs : List V} (h : H p = some (.lst xs)) : tyV K "list" (.ref p) H := Or.inl ⟨rfl, _, Or.inl (Or.inl h)⟩
theorem pure_law {K : PySem.W.Frag} {A : Ad} {vs : List V} {H : Hp} {Q : VK} {E : XK} (h : sp_law K A vs H Q E) : t_law K A { nx := fun _ H' => Q .non H', rt := Q } (start ["_law_script", "_law_pool_here", "_law_step", "_law_exits", "_law_kinds", "_law_turn", "_law_pending", "_law_guard", "_law_kind", "_law_answer", "_law_due"] vs) H := by
  obtain ⟨_, rfl, a, ns, rfl, hS, hlen, k⟩ := h
  unfold t_law
  walk_at "rd"
  refine s1 ⟨a, ns, rfl, hS, fun p H1 S1 P1 _ => ?_⟩
  walk_at "rd"
  refine s1 ⟨p, rfl, P1, fun stp H2 _ D2 => ?_⟩
  walk_at "rd"
  -- the exits
  refine q_lst (q_cons (q_tup ?_))
  walk_at "rd"
  refine s1 ⟨p, rfl, D2.1, fun n3 H3 _ _ D3 => ?_⟩
  walk_at "rd"
  refine ⟨by show 2 ≤ sizeLine; decide, fun t3 h3 => ?_⟩
  have P3 := D3.1.new (o := .tup [.str "return", .int n3]) h3
  have w3 : Two (upd H3 t3 (.tup [.str "return", .int n3])) (.ref t3) "return" (.inl n3) := two_new (k := .inl n3)
  generalize upd H3 t3 (.tup [.str "return", .int n3]) = H3' at P3 w3 ⊢
  refine q_cons (q_tup ?_)
  walk_at "rd"
  refine s1 ⟨p, rfl, P3, fun n4 H4 _ D4 => ?_⟩
  walk_at "rd"
  refine ⟨by show 2 ≤ sizeLine; decide, fun t4 h4 => ?_⟩
  have P4 := D4.1.new (o := .tup [.str "leave", .str (St8 n4)]) h4
  have k4 := (Tk.drawn P3 D4).trans (Tk.new (o := .tup [.str "leave", .str (St8 n4)]) h4)
  have w4 : Two (upd H4 t4 (.tup [.str "leave", .str (St8 n4)])) (.ref t4) "leave" (.inr (St8 n4)) := two_new (k := .inr (St8 n4))
  generalize upd H4 t4 (.tup [.str "leave", .str (St8 n4)]) = H4' at P4 k4 w4 ⊢
  refine q_cons (q_tup ?_)
  walk_at "rd"
  refine s1 ⟨p, rfl, P4, fun n5 H5 _ D5 => ?_⟩
  walk_at "rd"
  refine ⟨by show 2 ≤ sizeLine; decide, fun t5 h5 => ?_⟩
  have P5 := D5.1.new (o := .tup [.str "raise", .str (St8 n5)]) h5
  have k5 := (Tk.drawn P4 D5).trans (Tk.new (o := .tup [.str "raise", .str (St8 n5)]) h5)
  have w5 : Two (upd H5 t5 (.tup [.str "raise", .str (St8 n5)])) (.ref t5) "raise" (.inr (St8 n5)) := two_new (k := .inr (St8 n5))
  generalize upd H5 t5 (.tup [.str "raise", .str (St8 n5)]) = H5' at P5 k5 w5 ⊢
  refine q_cons (q_tup ?_)
  walk_at "rd"
  refine ⟨by show 2 ≤ sizeLine; decide, fun t6 h6 => ?_⟩
  have P6 := P5.new (o := .tup [.str "leave", .str (St8 stp)]) h6
  have k6 := Tk.new (o := .tup [.str "leave", .str (St8 stp)]) h6
  have w6 : Two (upd H5' t6 (.tup [.str "leave", .str (St8 stp)])) (.ref t6) "leave" (.inr (St8 stp)) := two_new (k := .inr (St8 stp))
  generalize upd H5' t6 (.tup [.str "leave", .str (St8 stp)]) = H6' at P6 k6 w6 ⊢
  walk_at "rd"
  refine ⟨by show 4 ≤ sizeLine; decide, fun e he => ?_⟩
  have X6 : Exits H6' [.ref t3, .ref t4, .ref t5, .ref t6] := exit_cons (w3.tk ((k4.trans k5).trans k6)) (exit_cons (w4.tk (k5.trans k6)) (exit_cons (w5.tk k6) (exit_cons w6 (fun x hx => nomatch hx))))
  have P7 := P6.new (o := .lst [.ref t3, .ref t4, .ref t5, .ref t6]) he
  have X7 := X6.tk (Tk.new (o := .lst [.ref t3, .ref t4, .ref t5, .ref t6]) he)
  have e7 : upd H6' e (.lst [.ref t3, .ref t4, .ref t5, .ref t6]) e = some (.lst [.ref t3, .ref t4, .ref t5, .ref t6]) := upd_same
  generalize upd H6' e (.lst [.ref t3, .ref t4, .ref t5, .ref t6]) = H7 at P7 X7 e7 ⊢
  walk_at "rd"
  refine q_bm (q_var rfl ⟨tyL e7, ?_⟩)
  refine q_cons (q_tup ?_)
  walk_at "rd"
  refine ⟨by show 2 ≤ sizeLine; decide, fun t8 h8 => ?_⟩
  have P8 := P7.new (o := .tup [.str "raise", .str (St8 stp)]) h8
  have X8 := X7.tk (Tk.new (o := .tup [.str "raise", .str (St8 stp)]) h8)
  have w8 : Two (upd H7 t8 (.tup [.str "raise", .str (St8 stp)])) (.ref t8) "raise" (.inr (St8 stp)) := two_new (k := .inr (St8 stp))
  have e8 := same_new (o := .tup [.str "raise", .str (St8 stp)]) h8 _ _ e7
  generalize upd H7 t8 (.tup [.str "raise", .str (St8 stp)]) = H8 at P8 X8 w8 e8 ⊢
  walk_at "rd"
  refine q_append e8 (by show 4 < sizeLine; decide) ?_
  have X8' : Exits H8 ([.ref t3, .ref t4, .ref t5, .ref t6] ++ [.ref t8]) := fun x hx => by
    rcases List.mem_append.mp hx with hx | hx
    · exact X8 x hx
    · rw [List.mem_singleton] at hx
      subst hx
      exact ⟨_, _, w8⟩
  have P9 := P8.lst (ys := [.ref t3, .ref t4, .ref t5, .ref t6] ++ [.ref t8]) e8
  have X9 := X8'.tk (Tk.lst (o := .lst ([.ref t3, .ref t4, .ref t5, .ref t6] ++ [.ref t8])) e8)
  have e9 : upd H8 e (.lst ([.ref t3, .ref t4, .ref t5, .ref t6] ++ [.ref t8])) e = some (.lst (.ref t3 :: .ref t4 :: [.ref t5, .ref t6, .ref t8])) := upd_same
  rw [show ([.ref t3, .ref t4, .ref t5, .ref t6] ++ [.ref t8] : List V) = .ref t3 :: .ref t4 :: [.ref t5, .ref t6, .ref t8] from rfl] at P9 X9 e9 ⊢
  generalize upd H8 e (.lst (.ref t3 :: .ref t4 :: [.ref t5, .ref t6, .ref t8])) = H9 at P9 X9 e9 ⊢
  -- the kinds
  walk_at "rd"
  refine q_lst (q_cons (q_tup ?_))
  walk_at "rd"
  refine ⟨by show 1 ≤ sizeLine; decide, fun u1 g1 => ?_⟩
  have P10 := P9.new (o := .tup [.str "plain"]) g1
  have X10 := X9.tk (Tk.new (o := .tup [.str "plain"]) g1)
  have e10 := same_new (o := .tup [.str "plain"]) g1 _ _ e9
  have z10 : Kind (upd H9 u1 (.tup [.str "plain"])) (.ref u1) "plain" (.inl 0) := ⟨u1, _, rfl, upd_same, .inl ⟨rfl, rfl⟩, by decide +kernel⟩
  generalize upd H9 u1 (.tup [.str "plain"]) = H10 at P10 X10 e10 z10 ⊢
  refine q_cons (q_tup ?_)
  walk_at "rd"
  refine s1 ⟨p, rfl, P10, fun m1 H11 _ _ D11 => ?_⟩
  walk_at "rd"
  refine ⟨by show 2 ≤ sizeLine; decide, fun u2 g2 => ?_⟩
  have K11 := (Tk.drawn P10 D11).trans (Tk.new (o := .tup [.str "answer", .int m1]) g2)
  have P11 := D11.1.new (o := .tup [.str "answer", .int m1]) g2
  have X11 := X10.tk K11
  have e11 := same_new (o := .tup [.str "answer", .int m1]) g2 _ _ (P10.keep2 D11 e10)
  have z11 : Kind (upd H11 u2 (.tup [.str "answer", .int m1])) (.ref u2) "answer" (.inl m1) := kind_new (k := .inl m1) (by decide +kernel)
  generalize upd H11 u2 (.tup [.str "answer", .int m1]) = H11' at K11 P11 X11 e11 z11 ⊢
  refine q_cons (q_tup ?_)
  walk_at "rd"
  refine s1 ⟨p, rfl, P11, fun m2 H12 _ D12 => ?_⟩
  walk_at "rd"
  refine ⟨by show 2 ≤ sizeLine; decide, fun u3 g3 => ?_⟩
  have K12 := (Tk.drawn P11 D12).trans (Tk.new (o := .tup [.str "jump", .str (St8 m2)]) g3)
  have P12 := D12.1.new (o := .tup [.str "jump", .str (St8 m2)]) g3
  have X12 := X11.tk K12
  have e12 := same_new (o := .tup [.str "jump", .str (St8 m2)]) g3 _ _ (P11.keep2 D12 e11)
  have z12 : Kind (upd H12 u3 (.tup [.str "jump", .str (St8 m2)])) (.ref u3) "jump" (.inr (St8 m2)) := kind_new (k := .inr (St8 m2)) (by decide +kernel)
  generalize upd H12 u3 (.tup [.str "jump", .str (St8 m2)]) = H12' at K12 P12 X12 e12 z12 ⊢
  refine q_cons (q_tup ?_)
  walk_at "rd"
  refine s1 ⟨p, rfl, P12, fun m3 H13 _ _ D13 => ?_⟩
  walk_at "rd"
  refine ⟨by show 2 ≤ sizeLine; decide, fun u4 g4 => ?_⟩
  have K13 := (Tk.drawn P12 D13).trans (Tk.new (o := .tup [.str "heal", .int m3]) g4)
  have P13 := D13.1.new (o := .tup [.str "heal", .int m3]) g4
  have X13 := X12.tk K13
  have e13 := same_new (o := .tup [.str "heal", .int m3]) g4 _ _ (P12.keep2 D13 e12)
  have z13 : Kind (upd H13 u4 (.tup [.str "heal", .int m3])) (.ref u4) "heal" (.inl m3) := kind_new (k := .inl m3) (by decide +kernel)
  generalize upd H13 u4 (.tup [.str "heal", .int m3]) = H13' at K13 P13 X13 e13 z13 ⊢
  walk_at "rd"
  refine ⟨by show 4 ≤ sizeLine; decide, fun kd hkd => ?_⟩
  have Y13 : Kinds H13' [.ref u1, .ref u2, .ref u3, .ref u4] := kind_cons (z10.tk ((K11.trans K12).trans K13)) (kind_cons (z11.tk (K12.trans K13)) (kind_cons (z12.tk K13) (kind_cons z13 (fun x hx => nomatch hx))))
  have P14 := P13.new (o := .lst [.ref u1, .ref u2, .ref u3, .ref u4]) hkd
  have K14 := Tk.new (o := .lst [.ref u1, .ref u2, .ref u3, .ref u4]) hkd
  have X14 := X13.tk K14
  have Y14 := Y13.tk K14
  have e14 := same_new (o := .lst [.ref u1, .ref u2, .ref u3, .ref u4]) hkd _ _ e13
  have ned : e ≠ kd := ne_of_none e13 hkd
  have d14 : upd H13' kd (.lst [.ref u1, .ref u2, .ref u3, .ref u4]) kd = some (.lst [.ref u1, .ref u2, .ref u3, .ref u4]) := upd_same
  generalize upd H13' kd (.lst [.ref u1, .ref u2, .ref u3, .ref u4]) = H14 at P14 X14 Y14 e14 d14 ⊢
  walk_at "rd"
  refine q_bm (q_var rfl ⟨tyL d14, ?_⟩)
  refine q_cons (q_tup ?_)
  walk_at "rd"
  refine s1 ⟨p, rfl, P14, fun m4 H15 _ D15 => ?_⟩
  walk_at "rd"
  refine ⟨by show 2 ≤ sizeLine; decide, fun u5 g5 => ?_⟩
  have K15 := (Tk.drawn P14 D15).trans (Tk.new (o := .tup [.str "swap", .str (St8 m4)]) g5)
  have X15 := X14.tk K15
  have Y15 := Y14.tk K15
  have e15 := same_new (o := .tup [.str "swap", .str (St8 m4)]) g5 _ _ (P14.keep2 D15 e14)
  have d15 := same_new (o := .tup [.str "swap", .str (St8 m4)]) g5 _ _ (P14.keep2 D15 d14)
  have z15 : Kind (upd H15 u5 (.tup [.str "swap", .str (St8 m4)])) (.ref u5) "swap" (.inr (St8 m4)) := kind_new (k := .inr (St8 m4)) (by decide +kernel)
  generalize upd H15 u5 (.tup [.str "swap", .str (St8 m4)]) = H15' at K15 X15 Y15 e15 d15 z15 ⊢
  walk_at "rd"
  refine q_append d15 (by show 4 < sizeLine; decide) ?_
  have K16 := Tk.lst (o := .lst ([.ref u1, .ref u2, .ref u3, .ref u4] ++ [.ref u5])) d15
  have X16 := X15.tk K16
  have Y16 : Kinds (upd H15' kd (.lst ([.ref u1, .ref u2, .ref u3, .ref u4] ++ [.ref u5]))) ([.ref u1, .ref u2, .ref u3, .ref u4] ++ [.ref u5]) := fun x hx => by
    rcases List.mem_append.mp hx with hx | hx
    · exact Y15.tk K16 x hx
    · rw [List.mem_singleton] at hx
      subst hx
      exact ⟨_, _, z15.tk K16⟩
  have e16 : upd H15' kd (.lst ([.ref u1, .ref u2, .ref u3, .ref u4] ++ [.ref u5])) e = some (.lst (.ref t3 :: .ref t4 :: [.ref t5, .ref t6, .ref t8])) := by rw [upd_ne ned]; exact e15
  have d16 : upd H15' kd (.lst ([.ref u1, .ref u2, .ref u3, .ref u4] ++ [.ref u5])) kd = some (.lst ([.ref u1, .ref u2, .ref u3, .ref u4] ++ [.ref u5])) := upd_same
  generalize upd H15' kd (.lst ([.ref u1, .ref u2, .ref u3, .ref u4] ++ [.ref u5])) = HB at X16 Y16 e16 d16 ⊢
  refine q_seq (turns rfl rfl e16 d16 X16 Y16 (Same.refl _) _ _ _ _ _ _ (fun H' v5 v6 v7 v8 v9 v10 _ => ?_))
  walk_at "rd"
  exact k H'
end Ov

set_option Elab.async false
set_option linter.all false
set_option maxRecDepth 100000
namespace Ov
open PySem PySem.Spec PyProof.Rows L2
def topS (i : Nat) : Stmt := PySem.Challenge.pw_exitdeeds_k02_pending_exit.main.body.getD i (.Pass ⟨0, 0, 0, 0⟩)
abbrev s_state : Stmt := topS 1
theorem sc_state : FnScope ["pending"] ["pending"] (defScope s_state) := ⟨rfl, rfl, rfl, by decide +kernel, rfl, by decide +kernel, by decide +kernel⟩
abbrev s_after : Stmt := topS 2
theorem sc_after : FnScope ["pending", "step", "kind", "guard", "answer", "word"] ["pending", "step", "kind", "guard", "answer"] (defScope s_after) := ⟨rfl, rfl, rfl, by decide +kernel, rfl, by decide +kernel, by decide +kernel⟩
abbrev s__law_pool : Stmt := topS 4
theorem sc__law_pool : FnScope ["_law_script"] ["_law_script"] (defScope s__law_pool) := ⟨rfl, rfl, rfl, by decide +kernel, rfl, by decide +kernel, by decide +kernel⟩
abbrev s__law_mixed : Stmt := topS 5
theorem sc__law_mixed : FnScope ["_law_cell", "_law_turn", "_law_limit", "_law_first", "_law_second", "_law_third"] ["_law_cell", "_law_turn", "_law_limit"] (defScope s__law_mixed) := ⟨rfl, rfl, rfl, by decide +kernel, rfl, by decide +kernel, by decide +kernel⟩
abbrev s__law_letters : Stmt := topS 7
theorem sc__law_letters : FnScope [] [] (defScope s__law_letters) := ⟨rfl, rfl, rfl, by decide +kernel, rfl, by decide +kernel, by decide +kernel⟩
abbrev s__law_state : Stmt := topS 10
theorem sc__law_state : FnScope ["_law_pending"] ["_law_pending"] (defScope s__law_state) := ⟨rfl, rfl, rfl, by decide +kernel, rfl, by decide +kernel, by decide +kernel⟩
abbrev s__law_after : Stmt := topS 11
theorem sc__law_after : FnScope ["_law_pending", "_law_step", "_law_kind", "_law_guard", "_law_answer"] ["_law_pending", "_law_step", "_law_kind", "_law_guard", "_law_answer"] (defScope s__law_after) := ⟨rfl, rfl, rfl, by decide +kernel, rfl, by decide +kernel, by decide +kernel⟩
abbrev s__law_draw : Stmt := topS 6
theorem sc__law_draw : FnScope ["_law_pool_here", "_law_limit", "_law_cell", "_law_digit"] ["_law_pool_here", "_law_limit"] (defScope s__law_draw) := ⟨rfl, rfl, rfl, by decide +kernel, rfl, by decide +kernel, by decide +kernel⟩
abbrev s__law_name : Stmt := topS 8
theorem sc__law_name : FnScope ["_law_pool_here", "_law_signs", "_law_name_here", "_law_more", "_law_k"] ["_law_pool_here"] (defScope s__law_name) := ⟨rfl, rfl, rfl, by decide +kernel, rfl, by decide +kernel, by decide +kernel⟩
abbrev s__law_number : Stmt := topS 9
theorem sc__law_number : FnScope ["_law_pool_here"] ["_law_pool_here"] (defScope s__law_number) := ⟨rfl, rfl, rfl, by decide +kernel, rfl, by decide +kernel, by decide +kernel⟩
abbrev s__law_same : Stmt := topS 12
theorem sc__law_same : FnScope ["_law_actual", "_law_expected", "_law_k"] ["_law_actual", "_law_expected"] (defScope s__law_same) := ⟨rfl, rfl, rfl, by decide +kernel, rfl, by decide +kernel, by decide +kernel⟩
abbrev s_law : Stmt := topS 13
theorem sc_law : FnScope ["_law_script", "_law_pool_here", "_law_step", "_law_exits", "_law_kinds", "_law_turn", "_law_pending", "_law_guard", "_law_kind", "_law_answer", "_law_due"] ["_law_script"] (defScope s_law) := ⟨rfl, rfl, rfl, by decide +kernel, rfl, by decide +kernel, by decide +kernel⟩
structure Txt (K : PySem.W.Frag) (mg : Str → Option Value) (A : Ad) : Prop where
  n_bool : mg "bool" = none
  n_int : mg "int" = none
  n_isinstance : mg "isinstance" = none
  n_len : mg "len" = none
  n_list : mg "list" = none
  n_range : mg "range" = none
  n_str : mg "str" = none
  n_tuple : mg "tuple" = none
section
variable {P : Program} {w : World} {K : PySem.W.Frag} {mg : Str → Option Value} {base : Heap} {A : Ad}
theorem ok_state (T : Txt K mg A) (h : Has K mg "state" s_state ["pending"]) : Cal P w K mg base CX0 1 "state" ["pending"] (sp_state K A) := by
  refine h.ok (k := 0) sc_state (fun vs H Q E h => len1 h) fun f cdv A' outer s H vs Q E hr hsp => ⟨t_state K A, ?_, pure_state hsp⟩
  have hu_ := hu65 hr
  unfold t_state
  exact (pss_one (ps_ret (pe_ifExp (pt_cmpR (op_oEq hu_) (pe_ix ix_oIx (pv 0) pe_int (fun _ _ => rfl)) pe_str (nomark _)) pe_str pe_str)))
theorem ok_after (T : Txt K mg A) (h : Has K mg "after" s_after ["pending", "step", "kind", "guard", "answer"]) : Cal P w K mg base CX0 1 "after" ["pending", "step", "kind", "guard", "answer"] (sp_after K A) := by
  refine h.ok (k := 0) sc_after (fun vs H Q E h => len5 h) fun f cdv A' outer s H vs Q E hr hsp => ⟨t_after K A, ?_, pure_after hsp⟩
  have hu_ := hu65 hr
  unfold t_after
  exact (pss_cons (ps_if (pt_cmpR (op_oEq hu_) (pv 4) pe_int (nomark _))
  (pss_one (ps_ret (pe_tup (pa_cons pe_str (pa_cons (pv 1) pa_nil)))))
  pss_nil)
  (pss_cons (ps_set (i := 5) sc_after.nd rfl (Or.inl rfl) (pe_ix ix_oIx (pv 2) pe_int (fun _ _ => rfl)))
  (pss_cons (ps_if (pt_cmpR (op_oEq hu_) (pv 5) pe_str (nomark _))
  (pss_one (ps_ret (pe_tup (pa_cons pe_str (pa_cons (pe_ix ix_oIx (pv 2) pe_int (fun _ _ => rfl)) pa_nil)))))
  pss_nil)
  (pss_cons (ps_if (pt_cmpR (op_oIn hu_) (pe_tup (pa_cons (pv 5) (pa_cons (pv 3) pa_nil))) (pe_tup (pa_cons (pe_tup (pa_cons pe_str (pa_cons pe_str pa_nil))) (pa_cons (pe_tup (pa_cons pe_str (pa_cons pe_str pa_nil))) pa_nil))) rfl)
  (pss_one (ps_ret (pe_tup (pa_cons pe_str (pa_cons (pe_ix ix_oIx (pv 2) pe_int (fun _ _ => rfl)) pa_nil)))))
  pss_nil)
  (pss_cons (ps_if (pt_cmpR (op_oEq hu_) (pe_tup (pa_cons (pv 5) (pa_cons (pv 3) pa_nil))) (pe_tup (pa_cons pe_str (pa_cons pe_str pa_nil))) (nomark _))
  (pss_one (ps_ret (pe_tup (pa_cons pe_str (pa_cons (pe_ix ix_oIx (pv 2) pe_int (fun _ _ => rfl)) pa_nil)))))
  pss_nil)
  (pss_one (ps_ret (pv 0))))))))
theorem ok__law_pool (T : Txt K mg A) (h : Has K mg "_law_pool" s__law_pool ["_law_script"]) : Cal P w K mg base CX0 1 "_law_pool" ["_law_script"] (sp__law_pool K A) := by
  refine h.ok (k := 0) sc__law_pool (fun vs H Q E h => len1 h) fun f cdv A' outer s H vs Q E hr hsp => ⟨t__law_pool K A, ?_, pure__law_pool hsp⟩
  unfold t__law_pool
  exact (pss_one (ps_ret (pe_lst (pa_cons (pe_callTy call_cList rfl T.n_list bi_list (pa_cons (pv 0) pa_nil)) (pa_cons pe_int (pa_cons pe_int (pa_cons pe_int (pa_cons pe_int pa_nil))))))))
theorem ok__law_mixed (T : Txt K mg A) (h : Has K mg "_law_mixed" s__law_mixed ["_law_cell", "_law_turn", "_law_limit"]) : Cal P w K mg base CX0 1 "_law_mixed" ["_law_cell", "_law_turn", "_law_limit"] (sp__law_mixed K A) := by
  refine h.ok (k := 0) sc__law_mixed (fun vs H Q E h => len3 h) fun f cdv A' outer s H vs Q E hr hsp => ⟨t__law_mixed K A, ?_, pure__law_mixed hsp⟩
  unfold t__law_mixed
  exact (pss_cons (ps_set (i := 3) sc__law_mixed.nd rfl (Or.inl rfl) (pe_op op_oMod (pe_callTy call_cInt rfl T.n_int bi_int (pa_cons (pe_op op_oAdd (pe_op op_oAdd (pe_op op_oMul (pv 0) pe_int) (pe_op op_oMul (pv 1) pe_int)) pe_int) pa_nil)) pe_int))
  (pss_cons (ps_set (i := 4) sc__law_mixed.nd rfl (Or.inl rfl) (pe_op op_oMod (pe_callTy call_cInt rfl T.n_int bi_int (pa_cons (pe_op op_oAdd (pe_op op_oAdd (pe_op op_oMul (pv 3) pe_int) (pe_op op_oMul (pv 0) pe_int)) (pe_op op_oMul (pv 1) pe_int)) pa_nil)) pe_int))
  (pss_cons (ps_set (i := 5) sc__law_mixed.nd rfl (Or.inl rfl) (pe_op op_oMod (pe_callTy call_cInt rfl T.n_int bi_int (pa_cons (pe_op op_oAdd (pe_op op_oMul (pv 4) pe_int) (pe_op op_oDiv (pv 3) pe_int)) pa_nil)) pe_int))
  (pss_one (ps_ret (pe_op op_oMod (pe_callTy call_cInt rfl T.n_int bi_int (pa_cons (pv 5) pa_nil)) (pv 2)))))))
theorem ok__law_letters (T : Txt K mg A) (h : Has K mg "_law_letters" s__law_letters []) : Cal P w K mg base CX0 1 "_law_letters" [] (sp__law_letters K A) := by
  refine h.ok (k := 0) sc__law_letters (fun vs H Q E h => len0 h) fun f cdv A' outer s H vs Q E hr hsp => ⟨t__law_letters K A, ?_, pure__law_letters hsp⟩
  unfold t__law_letters
  exact (pss_one (ps_ret pe_str))
theorem ok__law_state (T : Txt K mg A) (h : Has K mg "_law_state" s__law_state ["_law_pending"]) : Cal P w K mg base CX0 1 "_law_state" ["_law_pending"] (sp__law_state K A) := by
  refine h.ok (k := 0) sc__law_state (fun vs H Q E h => len1 h) fun f cdv A' outer s H vs Q E hr hsp => ⟨t__law_state K A, ?_, pure__law_state hsp⟩
  have hu_ := hu65 hr
  unfold t__law_state
  exact (pss_cons (ps_if (pt_cmpR (op_oEq hu_) (pe_ix ix_oIx (pv 0) pe_int (fun _ _ => rfl)) pe_str (nomark _))
  (pss_one (ps_ret pe_str))
  pss_nil)
  (pss_one (ps_ret pe_str)))
theorem ok__law_after (T : Txt K mg A) (h : Has K mg "_law_after" s__law_after ["_law_pending", "_law_step", "_law_kind", "_law_guard", "_law_answer"]) : Cal P w K mg base CX0 1 "_law_after" ["_law_pending", "_law_step", "_law_kind", "_law_guard", "_law_answer"] (sp__law_after K A) := by
  refine h.ok (k := 0) sc__law_after (fun vs H Q E h => len5 h) fun f cdv A' outer s H vs Q E hr hsp => ⟨t__law_after K A, ?_, pure__law_after hsp⟩
  have hu_ := hu65 hr
  unfold t__law_after
  exact (pss_cons (ps_if (pt_cmpR (op_oEq hu_) (pv 4) pe_int (nomark _))
  (pss_one (ps_ret (pe_tup (pa_cons pe_str (pa_cons (pv 1) pa_nil)))))
  pss_nil)
  (pss_cons (ps_if (pt_cmpR (op_oEq hu_) (pe_ix ix_oIx (pv 2) pe_int (fun _ _ => rfl)) pe_str (nomark _))
  (pss_one (ps_ret (pe_tup (pa_cons pe_str (pa_cons (pe_ix ix_oIx (pv 2) pe_int (fun _ _ => rfl)) pa_nil)))))
  pss_nil)
  (pss_cons (ps_if (PW.pt (pw_or (PW.pt (pw_and (pt_cmpR (op_oEq hu_) (pe_ix ix_oIx (pv 2) pe_int (fun _ _ => rfl)) pe_str (nomark _)) (pw_and1 (pt_cmpR (op_oEq hu_) (pv 3) pe_str (nomark _))))) (pw_or1 (PW.pt (pw_and (pt_cmpR (op_oEq hu_) (pe_ix ix_oIx (pv 2) pe_int (fun _ _ => rfl)) pe_str (nomark _)) (pw_and1 (pt_cmpR (op_oEq hu_) (pv 3) pe_str (nomark _))))))))
  (pss_one (ps_ret (pe_tup (pa_cons pe_str (pa_cons (pe_ix ix_oIx (pv 2) pe_int (fun _ _ => rfl)) pa_nil)))))
  pss_nil)
  (pss_cons (ps_if (PW.pt (pw_and (pt_cmpR (op_oEq hu_) (pe_ix ix_oIx (pv 2) pe_int (fun _ _ => rfl)) pe_str (nomark _)) (pw_and1 (pt_cmpR (op_oEq hu_) (pv 3) pe_str (nomark _)))))
  (pss_one (ps_ret (pe_tup (pa_cons pe_str (pa_cons (pe_ix ix_oIx (pv 2) pe_int (fun _ _ => rfl)) pa_nil)))))
  pss_nil)
  (pss_one (ps_ret (pv 0)))))))
theorem ok__law_draw (T : Txt K mg A) (h : Has K mg "_law_draw" s__law_draw ["_law_pool_here", "_law_limit"]) (c__law_mixed : Cal P w K mg base CX0 1 "_law_mixed" ["_law_cell", "_law_turn", "_law_limit"] (sp__law_mixed K A)) : Cal P w K mg base CX0 2 "_law_draw" ["_law_pool_here", "_law_limit"] (sp__law_draw K A) := by
  refine h.ok (k := 1) sc__law_draw (fun vs H Q E h => len2 h) fun f cdv A' outer s H vs Q E hr hsp => ⟨t__law_draw K A, ?_, pure__law_draw hsp⟩
  have hr_ : ∀ j, j ≤ 1 → Room j _ := fun j hj => hr.mono hj
  unfold t__law_draw
  exact (pss_cons (ps_if (pt_cmpR op_oGt (pe_ix ix_oIx (pv 0) pe_int (fun _ _ => rfl)) pe_int (nomark _))
  (pss_cons (ps_set (i := 3) sc__law_draw.nd rfl (Or.inl rfl) (pe_op op_oMod (pe_callTy call_cInt rfl T.n_int bi_int (pa_cons (pe_ix ix_oIx (pv 0) pe_int (fun _ _ => rfl)) pa_nil)) (pv 1)))
  (pss_cons (ps_asg (pe_op op_oDiv (pe_ix ix_oIx (pv 0) pe_int (fun _ _ => rfl)) (pv 1)) (pg_sub (pv 0) pe_int set_list))
  (pss_one (ps_ret (pv 3)))))
  pss_nil)
  (pss_cons (ps_if (pt_cmpR op_oGt (pe_ix ix_oIx (pv 0) pe_int (fun _ _ => rfl)) pe_int (nomark _))
  (pss_cons (ps_asg (pe_op op_oSub (pe_ix ix_oIx (pv 0) pe_int (fun _ _ => rfl)) pe_int) (pg_sub (pv 0) pe_int set_list))
  (pss_one (ps_ret (pe_fn c__law_mixed (hr_ 1 (by decide)) rfl (pa_cons (pe_ix ix_oIx (pv 0) pe_int (fun _ _ => rfl)) (pa_cons (pe_ix ix_oIx (pv 0) pe_int (fun _ _ => rfl)) (pa_cons (pv 1) pa_nil)))))))
  pss_nil)
  (pss_cons (ps_if (pt_cmpR op_oGe (pe_ix ix_oIx (pv 0) pe_int (fun _ _ => rfl)) (pe_callB call_cLen rfl T.n_len bi_len (pa_cons (pe_ix ix_oIx (pv 0) pe_int (fun _ _ => rfl)) pa_nil)) (nomark _))
  (pss_one (ps_ret pe_int))
  pss_nil)
  (pss_cons (ps_set (i := 2) sc__law_draw.nd rfl (Or.inl rfl) (pe_ix ix_oIx (pe_ix ix_oIx (pv 0) pe_int (fun _ _ => rfl)) (pe_ix ix_oIx (pv 0) pe_int (fun _ _ => rfl)) (fun _ _ => rfl)))
  (pss_cons (ps_asg (pe_op op_oAdd (pe_ix ix_oIx (pv 0) pe_int (fun _ _ => rfl)) pe_int) (pg_sub (pv 0) pe_int set_list))
  (pss_cons (ps_if (pt_cmpR op_oLt (pv 2) pe_int (nomark _))
  (pss_one (ps_set (i := 2) sc__law_draw.nd rfl (Or.inl rfl) (pe_op op_oSub (pe_un un_oNeg pe_int) (pv 2))))
  pss_nil)
  (pss_cons (ps_if (pt_cmpR op_oGe (pv 2) (pe_op op_oPow pe_int pe_int) (nomark _))
  (pss_cons (ps_asg (pe_op op_oDiv (pv 2) (pv 1)) (pg_sub (pv 0) pe_int set_list))
  (pss_one (ps_ret (pe_op op_oMod (pe_callTy call_cInt rfl T.n_int bi_int (pa_cons (pv 2) pa_nil)) (pv 1)))))
  pss_nil)
  (pss_cons (ps_asg (pv 2) (pg_sub (pv 0) pe_int set_list))
  (pss_cons (ps_asg pe_int (pg_sub (pv 0) pe_int set_list))
  (pss_one (ps_ret (pe_fn c__law_mixed (hr_ 1 (by decide)) rfl (pa_cons (pv 2) (pa_cons pe_int (pa_cons (pv 1) pa_nil)))))))))))))))
theorem ok__law_name (T : Txt K mg A) (h : Has K mg "_law_name" s__law_name ["_law_pool_here"]) (c__law_letters : Cal P w K mg base CX0 1 "_law_letters" [] (sp__law_letters K A)) (c__law_draw : Cal P w K mg base CX0 2 "_law_draw" ["_law_pool_here", "_law_limit"] (sp__law_draw K A)) : Cal P w K mg base CX0 3 "_law_name" ["_law_pool_here"] (sp__law_name K A) := by
  refine h.ok (k := 2) sc__law_name (fun vs H Q E h => len1 h) fun f cdv A' outer s H vs Q E hr hsp => ⟨t__law_name K A, ?_, pure__law_name hsp⟩
  have hr_ : ∀ j, j ≤ 2 → Room j _ := fun j hj => hr.mono hj
  have hu_ := hu65 hr
  unfold t__law_name
  exact (pss_cons (ps_set (i := 1) sc__law_name.nd rfl (Or.inl rfl) (pe_op op_oAdd (pe_fn0 c__law_letters (hr_ 1 (by decide)) rfl) pe_str))
  (pss_cons (ps_set (i := 2) sc__law_name.nd rfl (Or.inl rfl) (pe_ix ix_oIx (pv 1) (pe_fn c__law_draw (hr_ 2 (by decide)) rfl (pa_cons (pv 0) (pa_cons pe_int pa_nil))) (fun _ _ => rfl)))
  (pss_cons (ps_set (i := 3) sc__law_name.nd rfl (Or.inl rfl) (pe_fn c__law_draw (hr_ 2 (by decide)) rfl (pa_cons (pv 0) (pa_cons pe_int pa_nil))))
  (pss_cons (ps_if (pt_cmpR (op_oEq hu_) (pe_fn c__law_draw (hr_ 2 (by decide)) rfl (pa_cons (pv 0) (pa_cons pe_int pa_nil))) pe_int (nomark _))
  (pss_one (ps_set (i := 3) sc__law_name.nd rfl (Or.inl rfl) (pe_fn c__law_draw (hr_ 2 (by decide)) rfl (pa_cons (pv 0) (pa_cons pe_int pa_nil)))))
  pss_nil)
  (pss_cons (ps_for PassesOwn.never rfl (pi_range1 rfl T.n_range (pa_cons (pv 3) pa_nil)) (pg_name (i := 4) sc__law_name.nd rfl (Or.inl rfl))
  (pss_one (ps_set (i := 2) sc__law_name.nd rfl (Or.inl rfl) (pe_op op_oAdd (pv 2) (pe_ix ix_oIx (pv 1) (pe_fn c__law_draw (hr_ 2 (by decide)) rfl (pa_cons (pv 0) (pa_cons pe_int pa_nil))) (fun _ _ => rfl))))))
  (pss_one (ps_ret (pv 2))))))))
theorem ok__law_number (T : Txt K mg A) (h : Has K mg "_law_number" s__law_number ["_law_pool_here"]) (c__law_draw : Cal P w K mg base CX0 2 "_law_draw" ["_law_pool_here", "_law_limit"] (sp__law_draw K A)) : Cal P w K mg base CX0 3 "_law_number" ["_law_pool_here"] (sp__law_number K A) := by
  refine h.ok (k := 2) sc__law_number (fun vs H Q E h => len1 h) fun f cdv A' outer s H vs Q E hr hsp => ⟨t__law_number K A, ?_, pure__law_number hsp⟩
  have hr_ : ∀ j, j ≤ 2 → Room j _ := fun j hj => hr.mono hj
  have hu_ := hu65 hr
  unfold t__law_number
  exact (pss_cons (ps_if (pt_cmpR (op_oEq hu_) (pe_fn c__law_draw (hr_ 2 (by decide)) rfl (pa_cons (pv 0) (pa_cons pe_int pa_nil))) pe_int (nomark _))
  (pss_one (ps_ret (pe_fn c__law_draw (hr_ 2 (by decide)) rfl (pa_cons (pv 0) (pa_cons pe_int pa_nil)))))
  pss_nil)
  (pss_one (ps_ret (pe_fn c__law_draw (hr_ 2 (by decide)) rfl (pa_cons (pv 0) (pa_cons pe_int pa_nil))))))
theorem rec__law_same (T : Txt K mg A) (h : Has K mg "_law_same" s__law_same ["_law_actual", "_law_expected"]) : ∀ n, Cal P w K mg base CX0 (n + 1) "_law_same" ["_law_actual", "_law_expected"] (rec_law_same n)
  | 0 => h.void (fun _ _ _ _ z => no_law_same z)
  | n + 1 => by
    have c_rec := rec__law_same T h n
    refine h.ok (k := n + 1) sc__law_same (fun vs H Q E h => len2 h) fun f cdv A' outer s H vs Q E hr hsp => ⟨t__law_same K A (rec_law_same n), ?_, pure__law_same hsp⟩
    have hu_ := hu65 hr
    unfold t__law_same
    exact (pss_cons (ps_if (pt_cmpR op_oIsN (pv 1) pe_non (nomark _))
  (pss_one (ps_ret (pe_cmpR op_oIsN (pv 0) pe_non (nomark _))))
  pss_nil)
  (pss_cons (ps_if (pt_val (pe_callB call_cIsi rfl T.n_isinstance bi_isinstance (pa_cons (pv 1) (pa_cons (pe_bltn (v := .ty "bool") rfl T.n_bool bi_bool rfl) pa_nil))))
  (pss_one (ps_ret (pe_and (pe_callB call_cIsi rfl T.n_isinstance bi_isinstance (pa_cons (pv 0) (pa_cons (pe_bltn (v := .ty "bool") rfl T.n_bool bi_bool rfl) pa_nil))) (pe_one (pe_cmpR (op_oEq hu_) (pv 0) (pv 1) (nomark _))))))
  pss_nil)
  (pss_cons (ps_if (pt_val (pe_callB call_cIsi rfl T.n_isinstance bi_isinstance (pa_cons (pv 1) (pa_cons (pe_bltn (v := .ty "int") rfl T.n_int bi_int rfl) pa_nil))))
  (pss_one (ps_ret (pe_and (pe_callB call_cIsi rfl T.n_isinstance bi_isinstance (pa_cons (pv 0) (pa_cons (pe_bltn (v := .ty "int") rfl T.n_int bi_int rfl) pa_nil))) (pe_and (pe_not (pe_callB call_cIsi rfl T.n_isinstance bi_isinstance (pa_cons (pv 0) (pa_cons (pe_bltn (v := .ty "bool") rfl T.n_bool bi_bool rfl) pa_nil)))) (pe_one (pe_cmpR (op_oEq hu_) (pv 0) (pv 1) (nomark _)))))))
  pss_nil)
  (pss_cons (ps_if (pt_val (pe_callB call_cIsi rfl T.n_isinstance bi_isinstance (pa_cons (pv 1) (pa_cons (pe_bltn (v := .ty "str") rfl T.n_str bi_str rfl) pa_nil))))
  (pss_one (ps_ret (pe_and (pe_callB call_cIsi rfl T.n_isinstance bi_isinstance (pa_cons (pv 0) (pa_cons (pe_bltn (v := .ty "str") rfl T.n_str bi_str rfl) pa_nil))) (pe_one (pe_cmpR (op_oEq hu_) (pv 0) (pv 1) (nomark _))))))
  pss_nil)
  (pss_cons (ps_if (PW.pt (pw_and (pt_val (pe_callB call_cIsi rfl T.n_isinstance bi_isinstance (pa_cons (pv 1) (pa_cons (pe_bltn (v := .ty "tuple") rfl T.n_tuple bi_tuple rfl) pa_nil)))) (pw_and1 (pt_not (pt_val (pe_callB call_cIsi rfl T.n_isinstance bi_isinstance (pa_cons (pv 0) (pa_cons (pe_bltn (v := .ty "tuple") rfl T.n_tuple bi_tuple rfl) pa_nil))))))))
  (pss_one (ps_ret pe_bl))
  pss_nil)
  (pss_cons (ps_if (PW.pt (pw_and (pt_val (pe_callB call_cIsi rfl T.n_isinstance bi_isinstance (pa_cons (pv 1) (pa_cons (pe_bltn (v := .ty "list") rfl T.n_list bi_list rfl) pa_nil)))) (pw_and1 (pt_not (pt_val (pe_callB call_cIsi rfl T.n_isinstance bi_isinstance (pa_cons (pv 0) (pa_cons (pe_bltn (v := .ty "list") rfl T.n_list bi_list rfl) pa_nil))))))))
  (pss_one (ps_ret pe_bl))
  pss_nil)
  (pss_cons (ps_if (pt_cmpR (op_oNe hu_) (pe_callB call_cLen rfl T.n_len bi_len (pa_cons (pv 0) pa_nil)) (pe_callB call_cLen rfl T.n_len bi_len (pa_cons (pv 1) pa_nil)) (nomark _))
  (pss_one (ps_ret pe_bl))
  pss_nil)
  (pss_cons (ps_for PassesOwn.never rfl (pi_range1 rfl T.n_range (pa_cons (pe_callB call_cLen rfl T.n_len bi_len (pa_cons (pv 1) pa_nil)) pa_nil)) (pg_name (i := 2) sc__law_same.nd rfl (Or.inl rfl))
  (pss_one (ps_if (pt_not (pt_val (pe_fn c_rec hr rfl (pa_cons (pe_ix ix_oIx (pv 0) (pv 2) (fun _ _ => rfl)) (pa_cons (pe_ix ix_oIx (pv 1) (pv 2) (fun _ _ => rfl)) pa_nil)))))
  (pss_one (ps_ret pe_bl))
  pss_nil)))
  (pss_one (ps_ret pe_bl))))))))))
theorem ok__law_same (T : Txt K mg A) (h : Has K mg "_law_same" s__law_same ["_law_actual", "_law_expected"]) : Cal P w K mg base CX0 7 "_law_same" ["_law_actual", "_law_expected"] (sp__law_same K A) := rec__law_same T h 6
theorem ok_law {f : Addr} {fd : FuncData} (F : Fun K "law" "law" s_law f fd) (T : Txt K mg A) (c__law_pool : Cal P w K mg base CX0 1 "_law_pool" ["_law_script"] (sp__law_pool K A)) (c__law_name : Cal P w K mg base CX0 3 "_law_name" ["_law_pool_here"] (sp__law_name K A)) (c__law_number : Cal P w K mg base CX0 3 "_law_number" ["_law_pool_here"] (sp__law_number K A)) (c__law_state : Cal P w K mg base CX0 1 "_law_state" ["_law_pending"] (sp__law_state K A)) (c__law_same : Cal P w K mg base CX0 7 "_law_same" ["_law_actual", "_law_expected"] (sp__law_same K A)) (c_state : Cal P w K mg base CX0 1 "state" ["pending"] (sp_state K A)) (c__law_after : Cal P w K mg base CX0 1 "_law_after" ["_law_pending", "_law_step", "_law_kind", "_law_guard", "_law_answer"] (sp__law_after K A)) (c_after : Cal P w K mg base CX0 1 "after" ["pending", "step", "kind", "guard", "answer"] (sp_after K A)) : FnOk P w K mg base CX0 8 f fd ["_law_script"] (sp_law K A) := by
  refine F.ok (k := 7) sc_law (fun vs H Q E h => len1 h) fun cdv A' outer s H vs Q E hr hsp => ⟨t_law K A, ?_, pure_law hsp⟩
  have hr_ : ∀ j, j ≤ 7 → Room j _ := fun j hj => hr.mono hj
  unfold t_law
  exact (pss_cons (ps_set (i := 1) sc_law.nd rfl (Or.inl rfl) (pe_fn c__law_pool (hr_ 1 (by decide)) rfl (pa_cons (pv 0) pa_nil)))
  (pss_cons (ps_set (i := 2) sc_law.nd rfl (Or.inl rfl) (pe_fn c__law_name (hr_ 3 (by decide)) rfl (pa_cons (pv 1) pa_nil)))
  (pss_cons (ps_set (i := 3) sc_law.nd rfl (Or.inl rfl) (pe_lst (pa_cons (pe_tup (pa_cons pe_str (pa_cons (pe_fn c__law_number (hr_ 3 (by decide)) rfl (pa_cons (pv 1) pa_nil)) pa_nil))) (pa_cons (pe_tup (pa_cons pe_str (pa_cons (pe_fn c__law_name (hr_ 3 (by decide)) rfl (pa_cons (pv 1) pa_nil)) pa_nil))) (pa_cons (pe_tup (pa_cons pe_str (pa_cons (pe_fn c__law_name (hr_ 3 (by decide)) rfl (pa_cons (pv 1) pa_nil)) pa_nil))) (pa_cons (pe_tup (pa_cons pe_str (pa_cons (pv 2) pa_nil))) pa_nil))))))
  (pss_cons (ps_expr (pe_bm PySem.F.plainAttrs_list PySem.F.slot_list_append PySem.F.type_list_append mt_append (pv 3) (pa_cons (pe_tup (pa_cons pe_str (pa_cons (pv 2) pa_nil))) pa_nil)))
  (pss_cons (ps_set (i := 4) sc_law.nd rfl (Or.inl rfl) (pe_lst (pa_cons (pe_tup (pa_cons pe_str pa_nil)) (pa_cons (pe_tup (pa_cons pe_str (pa_cons (pe_fn c__law_number (hr_ 3 (by decide)) rfl (pa_cons (pv 1) pa_nil)) pa_nil))) (pa_cons (pe_tup (pa_cons pe_str (pa_cons (pe_fn c__law_name (hr_ 3 (by decide)) rfl (pa_cons (pv 1) pa_nil)) pa_nil))) (pa_cons (pe_tup (pa_cons pe_str (pa_cons (pe_fn c__law_number (hr_ 3 (by decide)) rfl (pa_cons (pv 1) pa_nil)) pa_nil))) pa_nil))))))
  (pss_cons (ps_expr (pe_bm PySem.F.plainAttrs_list PySem.F.slot_list_append PySem.F.type_list_append mt_append (pv 4) (pa_cons (pe_tup (pa_cons pe_str (pa_cons (pe_fn c__law_name (hr_ 3 (by decide)) rfl (pa_cons (pv 1) pa_nil)) pa_nil))) pa_nil)))
  (pss_cons (ps_for PassesOwn.never rfl (pi_range1 rfl T.n_range (pa_cons pe_int pa_nil)) (pg_name (i := 5) sc_law.nd rfl (Or.inl rfl))
  (pss_one (ps_for PassesOwn.never rfl (pi_any (pv 3)) (pg_name (i := 6) sc_law.nd rfl (Or.inl rfl))
  (pss_cons (ps_set (i := 7) sc_law.nd rfl (Or.inl rfl) (pe_fn c__law_state (hr_ 1 (by decide)) rfl (pa_cons (pv 6) pa_nil)))
  (pss_cons (ps_if (pt_not (pt_val (pe_fn c__law_same (hr_ 7 (by decide)) rfl (pa_cons (pe_fn c_state (hr_ 1 (by decide)) rfl (pa_cons (pv 6) pa_nil)) (pa_cons (pv 7) pa_nil)))))
  (pss_one (ps_ret pe_bl))
  pss_nil)
  (pss_one (ps_for PassesOwn.never rfl (pi_any (pv 4)) (pg_name (i := 8) sc_law.nd rfl (Or.inl rfl))
  (pss_one (ps_for PassesOwn.never rfl (pi_any (pe_lst (pa_cons pe_int (pa_cons pe_int pa_nil)))) (pg_name (i := 9) sc_law.nd rfl (Or.inl rfl))
  (pss_cons (ps_set (i := 10) sc_law.nd rfl (Or.inl rfl) (pe_fn c__law_after (hr_ 1 (by decide)) rfl (pa_cons (pv 6) (pa_cons (pv 2) (pa_cons (pv 8) (pa_cons (pv 7) (pa_cons (pv 9) pa_nil)))))))
  (pss_one (ps_if (pt_not (pt_val (pe_fn c__law_same (hr_ 7 (by decide)) rfl (pa_cons (pe_fn c_after (hr_ 1 (by decide)) rfl (pa_cons (pv 6) (pa_cons (pv 2) (pa_cons (pv 8) (pa_cons (pv 7) (pa_cons (pv 9) pa_nil)))))) (pa_cons (pv 10) pa_nil)))))
  (pss_one (ps_ret pe_bl))
  pss_nil))))))))))))
  (pss_one (ps_ret pe_bl)))))))))
end
theorem all_law {P : Program} {w : World} {K : PySem.W.Frag} {mg : Str → Option Value} {A : Ad} {fa : Addr} (hfa : mg "law" = some (.ref fa)) (T : Txt K mg A)
    (h_state : Has K mg "state" s_state ["pending"])
    (h_after : Has K mg "after" s_after ["pending", "step", "kind", "guard", "answer"])
    (h__law_pool : Has K mg "_law_pool" s__law_pool ["_law_script"])
    (h__law_mixed : Has K mg "_law_mixed" s__law_mixed ["_law_cell", "_law_turn", "_law_limit"])
    (h__law_letters : Has K mg "_law_letters" s__law_letters [])
    (h__law_state : Has K mg "_law_state" s__law_state ["_law_pending"])
    (h__law_after : Has K mg "_law_after" s__law_after ["_law_pending", "_law_step", "_law_kind", "_law_guard", "_law_answer"])
    (h__law_draw : Has K mg "_law_draw" s__law_draw ["_law_pool_here", "_law_limit"])
    (h__law_name : Has K mg "_law_name" s__law_name ["_law_pool_here"])
    (h__law_number : Has K mg "_law_number" s__law_number ["_law_pool_here"])
    (h__law_same : Has K mg "_law_same" s__law_same ["_law_actual", "_law_expected"])
    (h_law : Has K mg "law" s_law ["_law_script"])
    : ∃ fd : FuncData, (∀ (s : Shared) (u : Value), BindsTo s fd ⟨[u], []⟩ [("_law_script", u)]) ∧ ∀ base : Heap, K.In base → base.Ns mainGlobals mg → FnOk P w K mg base CX0 8 fa fd ["_law_script"] (sp_law K A) := by
  refine law_end h_law hfa fun base hi hn f fd F => ?_
  have c_state := ok_state (P := P) (w := w) (base := base) T h_state
  have c_after := ok_after (P := P) (w := w) (base := base) T h_after
  have c__law_pool := ok__law_pool (P := P) (w := w) (base := base) T h__law_pool
  have c__law_mixed := ok__law_mixed (P := P) (w := w) (base := base) T h__law_mixed
  have c__law_letters := ok__law_letters (P := P) (w := w) (base := base) T h__law_letters
  have c__law_state := ok__law_state (P := P) (w := w) (base := base) T h__law_state
  have c__law_after := ok__law_after (P := P) (w := w) (base := base) T h__law_after
  have c__law_draw := ok__law_draw (P := P) (w := w) (base := base) T h__law_draw c__law_mixed
  have c__law_name := ok__law_name (P := P) (w := w) (base := base) T h__law_name c__law_letters c__law_draw
  have c__law_number := ok__law_number (P := P) (w := w) (base := base) T h__law_number c__law_draw
  have c__law_same := ok__law_same (P := P) (w := w) (base := base) T h__law_same
  exact ok_law F T c__law_pool c__law_name c__law_number c__law_state c__law_same c_state c__law_after c_after
theorem all_mk {P : Program} {w : World} {K : PySem.W.Frag} {h : Heap} {mg : Str → Option Value} {fa : Addr} (X : K.In h) (G : h.Ns mainGlobals mg) (hfa : mg "law" = some (.ref fa))
    (n_bool : PySem.W.nsIn K mainGlobals "bool" = some none)
    (n_int : PySem.W.nsIn K mainGlobals "int" = some none)
    (n_isinstance : PySem.W.nsIn K mainGlobals "isinstance" = some none)
    (n_len : PySem.W.nsIn K mainGlobals "len" = some none)
    (n_list : PySem.W.nsIn K mainGlobals "list" = some none)
    (n_range : PySem.W.nsIn K mainGlobals "range" = some none)
    (n_str : PySem.W.nsIn K mainGlobals "str" = some none)
    (n_tuple : PySem.W.nsIn K mainGlobals "tuple" = some none)
    {f0 : Addr} {oc0 : Value} {od0 an0 : Option Addr} {sl0 : Array (Option Value)} {kV0 dc0 pm0 cd0 ct0 : Value}
    (a0 : PySem.W.nsIn K mainGlobals "state" = some (some (.ref f0)))
    (l0 : K.lookup f0 = some ⟨oc0, od0, .func (PySem.W.fnOf "state" "state" (defArgs s_state) (defBody s_state) (defScope s_state) .none kV0 dc0 pm0 an0 cd0 ct0), sl0⟩)
    (c0 : PySem.W.codeIn K cd0 "state" = true) (k0 : PySem.W.keepIn K (.ref f0) = true)
    {f1 : Addr} {oc1 : Value} {od1 an1 : Option Addr} {sl1 : Array (Option Value)} {kV1 dc1 pm1 cd1 ct1 : Value}
    (a1 : PySem.W.nsIn K mainGlobals "after" = some (some (.ref f1)))
    (l1 : K.lookup f1 = some ⟨oc1, od1, .func (PySem.W.fnOf "after" "after" (defArgs s_after) (defBody s_after) (defScope s_after) .none kV1 dc1 pm1 an1 cd1 ct1), sl1⟩)
    (c1 : PySem.W.codeIn K cd1 "after" = true) (k1 : PySem.W.keepIn K (.ref f1) = true)
    {f2 : Addr} {oc2 : Value} {od2 an2 : Option Addr} {sl2 : Array (Option Value)} {kV2 dc2 pm2 cd2 ct2 : Value}
    (a2 : PySem.W.nsIn K mainGlobals "_law_pool" = some (some (.ref f2)))
    (l2 : K.lookup f2 = some ⟨oc2, od2, .func (PySem.W.fnOf "_law_pool" "_law_pool" (defArgs s__law_pool) (defBody s__law_pool) (defScope s__law_pool) .none kV2 dc2 pm2 an2 cd2 ct2), sl2⟩)
    (c2 : PySem.W.codeIn K cd2 "_law_pool" = true) (k2 : PySem.W.keepIn K (.ref f2) = true)
    {f3 : Addr} {oc3 : Value} {od3 an3 : Option Addr} {sl3 : Array (Option Value)} {kV3 dc3 pm3 cd3 ct3 : Value}
    (a3 : PySem.W.nsIn K mainGlobals "_law_mixed" = some (some (.ref f3)))
    (l3 : K.lookup f3 = some ⟨oc3, od3, .func (PySem.W.fnOf "_law_mixed" "_law_mixed" (defArgs s__law_mixed) (defBody s__law_mixed) (defScope s__law_mixed) .none kV3 dc3 pm3 an3 cd3 ct3), sl3⟩)
    (c3 : PySem.W.codeIn K cd3 "_law_mixed" = true) (k3 : PySem.W.keepIn K (.ref f3) = true)
    {f4 : Addr} {oc4 : Value} {od4 an4 : Option Addr} {sl4 : Array (Option Value)} {kV4 dc4 pm4 cd4 ct4 : Value}
    (a4 : PySem.W.nsIn K mainGlobals "_law_letters" = some (some (.ref f4)))
    (l4 : K.lookup f4 = some ⟨oc4, od4, .func (PySem.W.fnOf "_law_letters" "_law_letters" (defArgs s__law_letters) (defBody s__law_letters) (defScope s__law_letters) .none kV4 dc4 pm4 an4 cd4 ct4), sl4⟩)
    (c4 : PySem.W.codeIn K cd4 "_law_letters" = true) (k4 : PySem.W.keepIn K (.ref f4) = true)
    {f5 : Addr} {oc5 : Value} {od5 an5 : Option Addr} {sl5 : Array (Option Value)} {kV5 dc5 pm5 cd5 ct5 : Value}
    (a5 : PySem.W.nsIn K mainGlobals "_law_state" = some (some (.ref f5)))
    (l5 : K.lookup f5 = some ⟨oc5, od5, .func (PySem.W.fnOf "_law_state" "_law_state" (defArgs s__law_state) (defBody s__law_state) (defScope s__law_state) .none kV5 dc5 pm5 an5 cd5 ct5), sl5⟩)
    (c5 : PySem.W.codeIn K cd5 "_law_state" = true) (k5 : PySem.W.keepIn K (.ref f5) = true)
    {f6 : Addr} {oc6 : Value} {od6 an6 : Option Addr} {sl6 : Array (Option Value)} {kV6 dc6 pm6 cd6 ct6 : Value}
    (a6 : PySem.W.nsIn K mainGlobals "_law_after" = some (some (.ref f6)))
    (l6 : K.lookup f6 = some ⟨oc6, od6, .func (PySem.W.fnOf "_law_after" "_law_after" (defArgs s__law_after) (defBody s__law_after) (defScope s__law_after) .none kV6 dc6 pm6 an6 cd6 ct6), sl6⟩)
    (c6 : PySem.W.codeIn K cd6 "_law_after" = true) (k6 : PySem.W.keepIn K (.ref f6) = true)
    {f7 : Addr} {oc7 : Value} {od7 an7 : Option Addr} {sl7 : Array (Option Value)} {kV7 dc7 pm7 cd7 ct7 : Value}
    (a7 : PySem.W.nsIn K mainGlobals "_law_draw" = some (some (.ref f7)))
    (l7 : K.lookup f7 = some ⟨oc7, od7, .func (PySem.W.fnOf "_law_draw" "_law_draw" (defArgs s__law_draw) (defBody s__law_draw) (defScope s__law_draw) .none kV7 dc7 pm7 an7 cd7 ct7), sl7⟩)
    (c7 : PySem.W.codeIn K cd7 "_law_draw" = true) (k7 : PySem.W.keepIn K (.ref f7) = true)
    {f8 : Addr} {oc8 : Value} {od8 an8 : Option Addr} {sl8 : Array (Option Value)} {kV8 dc8 pm8 cd8 ct8 : Value}
    (a8 : PySem.W.nsIn K mainGlobals "_law_name" = some (some (.ref f8)))
    (l8 : K.lookup f8 = some ⟨oc8, od8, .func (PySem.W.fnOf "_law_name" "_law_name" (defArgs s__law_name) (defBody s__law_name) (defScope s__law_name) .none kV8 dc8 pm8 an8 cd8 ct8), sl8⟩)
    (c8 : PySem.W.codeIn K cd8 "_law_name" = true) (k8 : PySem.W.keepIn K (.ref f8) = true)
    {f9 : Addr} {oc9 : Value} {od9 an9 : Option Addr} {sl9 : Array (Option Value)} {kV9 dc9 pm9 cd9 ct9 : Value}
    (a9 : PySem.W.nsIn K mainGlobals "_law_number" = some (some (.ref f9)))
    (l9 : K.lookup f9 = some ⟨oc9, od9, .func (PySem.W.fnOf "_law_number" "_law_number" (defArgs s__law_number) (defBody s__law_number) (defScope s__law_number) .none kV9 dc9 pm9 an9 cd9 ct9), sl9⟩)
    (c9 : PySem.W.codeIn K cd9 "_law_number" = true) (k9 : PySem.W.keepIn K (.ref f9) = true)
    {f10 : Addr} {oc10 : Value} {od10 an10 : Option Addr} {sl10 : Array (Option Value)} {kV10 dc10 pm10 cd10 ct10 : Value}
    (a10 : PySem.W.nsIn K mainGlobals "_law_same" = some (some (.ref f10)))
    (l10 : K.lookup f10 = some ⟨oc10, od10, .func (PySem.W.fnOf "_law_same" "_law_same" (defArgs s__law_same) (defBody s__law_same) (defScope s__law_same) .none kV10 dc10 pm10 an10 cd10 ct10), sl10⟩)
    (c10 : PySem.W.codeIn K cd10 "_law_same" = true) (k10 : PySem.W.keepIn K (.ref f10) = true)
    {f11 : Addr} {oc11 : Value} {od11 an11 : Option Addr} {sl11 : Array (Option Value)} {kV11 dc11 pm11 cd11 ct11 : Value}
    (a11 : PySem.W.nsIn K mainGlobals "law" = some (some (.ref f11)))
    (l11 : K.lookup f11 = some ⟨oc11, od11, .func (PySem.W.fnOf "law" "law" (defArgs s_law) (defBody s_law) (defScope s_law) .none kV11 dc11 pm11 an11 cd11 ct11), sl11⟩)
    (c11 : PySem.W.codeIn K cd11 "law" = true) (k11 : PySem.W.keepIn K (.ref f11) = true)
    : ∃ fd : FuncData, (∀ (s : Shared) (u : Value), BindsTo s fd ⟨[u], []⟩ [("_law_script", u)]) ∧ ∀ base : Heap, K.In base → base.Ns mainGlobals mg → FnOk P w K mg base CX0 8 fa fd ["_law_script"] (spLaw K) := by
  have T : Txt K mg () := ⟨PySem.W.mg_none_of X G n_bool, PySem.W.mg_none_of X G n_int, PySem.W.mg_none_of X G n_isinstance, PySem.W.mg_none_of X G n_len, PySem.W.mg_none_of X G n_list, PySem.W.mg_none_of X G n_range, PySem.W.mg_none_of X G n_str, PySem.W.mg_none_of X G n_tuple⟩
  have h_state : Has K mg "state" s_state ["pending"] := has_mk X G a0 l0 c0 k0 fun _ _ _ _ _ _ us hl => match us, hl with | [_], _ => rfl
  have h_after : Has K mg "after" s_after ["pending", "step", "kind", "guard", "answer"] := has_mk X G a1 l1 c1 k1 fun _ _ _ _ _ _ us hl => match us, hl with | [_, _, _, _, _], _ => rfl
  have h__law_pool : Has K mg "_law_pool" s__law_pool ["_law_script"] := has_mk X G a2 l2 c2 k2 fun _ _ _ _ _ _ us hl => match us, hl with | [_], _ => rfl
  have h__law_mixed : Has K mg "_law_mixed" s__law_mixed ["_law_cell", "_law_turn", "_law_limit"] := has_mk X G a3 l3 c3 k3 fun _ _ _ _ _ _ us hl => match us, hl with | [_, _, _], _ => rfl
  have h__law_letters : Has K mg "_law_letters" s__law_letters [] := has_mk X G a4 l4 c4 k4 fun _ _ _ _ _ _ us hl => match us, hl with | [], _ => rfl
  have h__law_state : Has K mg "_law_state" s__law_state ["_law_pending"] := has_mk X G a5 l5 c5 k5 fun _ _ _ _ _ _ us hl => match us, hl with | [_], _ => rfl
  have h__law_after : Has K mg "_law_after" s__law_after ["_law_pending", "_law_step", "_law_kind", "_law_guard", "_law_answer"] := has_mk X G a6 l6 c6 k6 fun _ _ _ _ _ _ us hl => match us, hl with | [_, _, _, _, _], _ => rfl
  have h__law_draw : Has K mg "_law_draw" s__law_draw ["_law_pool_here", "_law_limit"] := has_mk X G a7 l7 c7 k7 fun _ _ _ _ _ _ us hl => match us, hl with | [_, _], _ => rfl
  have h__law_name : Has K mg "_law_name" s__law_name ["_law_pool_here"] := has_mk X G a8 l8 c8 k8 fun _ _ _ _ _ _ us hl => match us, hl with | [_], _ => rfl
  have h__law_number : Has K mg "_law_number" s__law_number ["_law_pool_here"] := has_mk X G a9 l9 c9 k9 fun _ _ _ _ _ _ us hl => match us, hl with | [_], _ => rfl
  have h__law_same : Has K mg "_law_same" s__law_same ["_law_actual", "_law_expected"] := has_mk X G a10 l10 c10 k10 fun _ _ _ _ _ _ us hl => match us, hl with | [_, _], _ => rfl
  have h_law : Has K mg "law" s_law ["_law_script"] := has_mk X G a11 l11 c11 k11 fun _ _ _ _ _ _ us hl => match us, hl with | [_], _ => rfl
  exact all_law hfa T h_state h_after h__law_pool h__law_mixed h__law_letters h__law_state h__law_after h__law_draw h__law_name h__law_number h__law_same h_law
end Ov
open PySem PySem.W PyProof.Rows
set_option maxRecDepth 100000 in
set_option maxHeartbeats 0 in
theorem PySem.Challenge.cw_exitdeeds_k02_pending_exit_holds : PySem.Challenge.rw_exitdeeds_k02_pending_exit.Holds := by
  w_on; o_law; k_head; (case hw => w_witness2)
  k_fill
  refine L2.walk_ofK (l := PySem.Challenge.rw_exitdeeds_k02_pending_exit) (n := 63) (k := 8) (x := "_law_script") (CX := L2.CX0) (sp := Ov.spLaw) rfl (by decide) rfl ⟨rfl, by decide, by decide⟩ (fun w h Y => PySem.W.kIn_of Y) ?F Ov.law_start fun _ _ _ _ z => z
  case F =>
    intro w mg fa h KX G hmg
    refine' Ov.all_mk KX G hmg ?n_bool ?n_int ?n_isinstance ?n_len ?n_list ?n_range ?n_str ?n_tuple ?a0 ?l0 ?c0 ?k0 ?a1 ?l1 ?c1 ?k1 ?a2 ?l2 ?c2 ?k2 ?a3 ?l3 ?c3 ?k3 ?a4 ?l4 ?c4 ?k4 ?a5 ?l5 ?c5 ?k5 ?a6 ?l6 ?c6 ?k6 ?a7 ?l7 ?c7 ?k7 ?a8 ?l8 ?c8 ?k8 ?a9 ?l9 ?c9 ?k9 ?a10 ?l10 ?c10 ?k10 ?a11 ?l11 ?c11 ?k11
    (case n_bool => k_is)
    (case n_int => k_is)
    (case n_isinstance => k_is)
    (case n_len => k_is)
    (case n_list => k_is)
    (case n_range => k_is)
    (case n_str => k_is)
    (case n_tuple => k_is)
    (case a0 => k_is); (case l0 => k_is); (case c0 => k_is); (case k0 => k_is)
    (case a1 => k_is); (case l1 => k_is); (case c1 => k_is); (case k1 => k_is)
    (case a2 => k_is); (case l2 => k_is); (case c2 => k_is); (case k2 => k_is)
    (case a3 => k_is); (case l3 => k_is); (case c3 => k_is); (case k3 => k_is)
    (case a4 => k_is); (case l4 => k_is); (case c4 => k_is); (case k4 => k_is)
    (case a5 => k_is); (case l5 => k_is); (case c5 => k_is); (case k5 => k_is)
    (case a6 => k_is); (case l6 => k_is); (case c6 => k_is); (case k6 => k_is)
    (case a7 => k_is); (case l7 => k_is); (case c7 => k_is); (case k7 => k_is)
    (case a8 => k_is); (case l8 => k_is); (case c8 => k_is); (case k8 => k_is)
    (case a9 => k_is); (case l9 => k_is); (case c9 => k_is); (case k9 => k_is)
    (case a10 => k_is); (case l10 => k_is); (case c10 => k_is); (case k10 => k_is)
    (case a11 => k_is); (case l11 => k_is); (case c11 => k_is); (case k11 => k_is)
#print axioms PySem.Challenge.cw_exitdeeds_k02_pending_exit_holds

