import PyProof.Rows.All
import Wide.All
import OpenK.AllK
import Wide.FinOn
import KE.KStateDown
import KE.KExcIs
import KE.KIsAll
import Lean
import HandS.Base
import HandS.Call
import HandS.Ends
import HandS.More
import HandS.Words
import HandS.Exc
import HandS.ForMost
import HandS.ClsMeth
import HandS.Head0
import HandS.Head1
import HandS.Head2
import HandS.HeadEnd
import HandS.HeadHook1
import HandS.HeadHook2
import HandS.SlotsOwn
import HandS.Deep
import HandS.IsInst
import KE.GoesEnum
import HandS.Walk
import HandS.Codes
import HandS.Conv
import HandS.Style
import HandS.ForExc
import HandS.ExcIs
import KE.KOwnIter
import HandS.IterNext
import HandS.IterVal
import PySem.Challenge.RW_murmurline_k32_whole_only_loses_more
set_option Elab.async false
set_option linter.all false
set_option maxRecDepth 100000
set_option maxHeartbeats 4000000
set_option exponentiation.threshold 2000
/-! the head's facts by one Bool over the objects that the top has made -/
namespace Hd
open PySem PySem.Spec PyProof.Rows L2
/-! a small part of the heap: by names -/
def frNat {α : Type} (n : Nat) (k : Nat → α) : α := match n with
  | 0 => k 0
  | m + 1 => k (m + 1)
def forceL {α : Type} : List Addr → (List Addr → α) → α
  | [], k => k []
  | a :: r, k => frNat a fun a => forceL r fun r => k (a :: r)
def forceK {α : Type} (g : Addr → Option Obj) : List Addr → (PySem.W.Frag → α) → α
  | [], k => k []
  | a :: r, k => match g a with
    | some ⟨c, d, dt, sl⟩ => forceK g r fun r => k ((a, ⟨c, d, dt, sl⟩) :: r)
    | none => forceK g r k
theorem forceK_eq {α : Type} {g : Addr → Option Obj} : ∀ (l : List Addr) (k : PySem.W.Frag → α), forceK g l k = k (He.frG g l)
  | [], k => rfl
  | a :: r, k => by
    unfold forceK He.frG
    rw [List.filterMap_cons]
    cases h : g a with
    | none => exact forceK_eq r k
    | some o => exact forceK_eq r _
def nsOf (g : Addr → Option Obj) (c : Addr) : Addr := match g c with
  | some ⟨_, _, .cls cd, _⟩ => cd.ns
  | _ => 0
def gaG (g : Addr → Option Obj) (x : Str) : Addr := He.ga (He.frG g [mainGlobals]) x
def inNs (g : Addr → Option Obj) (ns : Addr) (m : Str) : Addr := match PySem.W.nsIn (He.frG g [ns]) ns m with
  | some (some (.ref a)) => a
  | _ => 0
def refs1 (g : Addr → Option Obj) (a : Addr) : List Addr := match g a with
  | some o => He.refsD o
  | none => []
def refs2 (g : Addr → Option Obj) (a : Addr) : List Addr := match g a with
  | some ⟨c, d, .func fd, sl⟩ => He.refsD ⟨c, d, .func fd, sl⟩
  | _ => []
def reach (g : Addr → Option Obj) (cls globs : List Str) (ms : List (Str × List Str)) : List Addr :=
  forceL (cls.map (gaG g)) fun cs => forceL (cs.map (nsOf g)) fun ns => forceL (globs.map (gaG g)) fun gs =>
  forceL (ms.flatMap fun p => p.2.map (inNs g (nsOf g (gaG g p.1)))) fun fs => forceL ((gs ++ fs).flatMap (refs1 g)) fun f1 => forceL (f1.flatMap (refs2 g)) fun f2 =>
  [mainGlobals, cStatics] ++ cs ++ ns ++ gs ++ fs ++ f1 ++ f2
/-- a def: where it stands; sup: it has the cell of its class -/
structure FnX where
  adr : PySem.W.Frag → Addr
  name : Str
  qual : Str
  params : Arguments
  body : List Stmt
  scope : Scope
  sup : Bool
abbrev FnO : Type := Option (Str × Str × Arguments × FuncBody × Scope × Addr × Value × Addr)
def obsAt (K : PySem.W.Frag) (a : Addr) : FnO := match K.lookup a with
  | some ⟨_, _, .func fd, _⟩ => some (fd.name, fd.qualname, fd.params, fd.body, fd.scope, fd.globals, fd.defaults, fd.builtins)
  | _ => none
def FnX.val (d : FnX) : FnO := some (d.name, d.qual, d.params, .stmts d.body, d.scope, mainGlobals, .none, builtinsNs)
def okAt (K : PySem.W.Frag) (a : Addr) (q : Str) (sup : Bool) : Bool := match K.lookup a with
  | some ⟨_, _, .func fd, _⟩ => PySem.W.codeIn K fd.code q && (match sup, fd.closure with
    | false, [] => true
    | true, [(x, _)] => decide (x = "__class__")
    | _, _ => false)
  | _ => false
theorem fnx_plain {K : PySem.W.Frag} {a : Addr} {n q : Str} {ps : Arguments} {b : List Stmt} {sc : Scope} (e : obsAt K a = some (n, q, ps, .stmts b, sc, mainGlobals, .none, builtinsNs)) (c : okAt K a q false = true) :
    ∃ oc od osl kV doc pm an cdv ct, K.lookup a = some ⟨oc, od, .func (PySem.W.fnOf n q ps b sc .none kV doc pm an cdv ct), osl⟩ ∧ PySem.W.codeIn K cdv q = true := by
  unfold obsAt at e
  unfold okAt at c
  cases lk : K.lookup a with
  | none =>
    rw [lk] at e
    cases e
  | some o =>
    obtain ⟨oc, od, dt, osl⟩ := o
    rw [lk] at c e
    cases dt with
    | func fd =>
      obtain ⟨n1, n2, n3, n4, n5, n6, n7, n8, n9, n10, n11, n12, n13, n14, n15⟩ := fd
      have e2 : (some (n1, n2, n3, n4, n5, n6, n8, n15) : FnO) = some (n, q, ps, .stmts b, sc, mainGlobals, .none, builtinsNs) := e
      simp only [Option.some.injEq, Prod.mk.injEq] at e2
      obtain ⟨h1, h2, h3, h4, h5, h6, h7, h8⟩ := e2
      subst h1 h2 h3 h4 h5 h6 h7 h8
      obtain ⟨c1, c2⟩ := He.ba c
      cases n7 with
      | nil => exact ⟨oc, od, osl, n9, n10, n11, n12, n13, n14, rfl, c1⟩
      | cons x r => cases c2
    | _ => cases c
/-! ### other things that a top has written -/
def cvalB (K : PySem.W.Frag) (C : Addr) (x : Str) (i : Int) : Bool := match PySem.W.findCls K (.ref C) (.type "type") x with
  | some (.val (.int j _)) => decide (j = i)
  | _ => false
theorem cval_ok {K : PySem.W.Frag} {C : Addr} {x : Str} {i : Int} (h : cvalB K C x i = true) : ∃ t, PySem.W.findCls K (.ref C) (.type "type") x = some (.val (.int i t)) := by
  unfold cvalB at h
  split at h
  · rename_i j t e
    exact ⟨t, by rw [e, of_decide_eq_true h]⟩
  · cases h
/-! ### a class of errors -/
/-! ### the Hook -/
abbrev AlB : Type := Bool × List FnO
def obsB (B : PySem.W.Frag → Bool) (fn : List FnX) (K : PySem.W.Frag) : AlB := (B K && fn.all fun d => okAt K (d.adr K) d.qual d.sup, fn.map fun d => obsAt K (d.adr K))
def valB (fn : List FnX) : AlB := (true, fn.map FnX.val)
def SaysB (B : PySem.W.Frag → Bool) (fn : List FnX) (K : PySem.W.Frag) : Prop := obsB B fn K = valB fn
def obsBG (as : (Addr → Option Obj) → List Addr) (B : PySem.W.Frag → Bool) (fn : List FnX) (g : Addr → Option Obj) : AlB := forceK g (as g) fun K => obsB B fn K
def hookB (as : (Addr → Option Obj) → List Addr) (B : PySem.W.Frag → Bool) (fn : List FnX) : PySem.W.Hook where
  α := AlB
  obs := fun s => obsBG as B fn s.heap.get?
  val := fun _ => valB fn
  says := fun _ h => ∃ K : PySem.W.Frag, K.In h ∧ SaysB B fn K
  of := fun _ _ e => ⟨_, He.frG_in, by rw [obsBG, forceK_eq] at e; exact e⟩
  keeps := fun _ _ _ ⟨K, hK, c⟩ k => ⟨K, PySem.W.Frag.In.keeps hK k, c⟩
theorem obsBG_eq {as : (Addr → Option Obj) → List Addr} {B : PySem.W.Frag → Bool} {fn : List FnX} {g : Addr → Option Obj} {s : Shared} (h : ∀ a, g a = s.heap.get? a) : obsBG as B fn g = (hookB as B fn).obs s := by
  have e : g = s.heap.get? := funext h
  rw [e] <;> rfl
section
variable {B : PySem.W.Frag → Bool} {fn : List FnX} {K : PySem.W.Frag}
theorem SaysB.bool (c : SaysB B fn K) : B K = true := (He.ba (show (B K && fn.all fun d => okAt K (d.adr K) d.qual d.sup) = true from congrArg (fun z : AlB => z.1) c)).1
theorem SaysB.def_ (c : SaysB B fn K) (i : Nat) {d : FnX} (h : fn[i]? = some d := by rfl) : obsAt K (d.adr K) = some (d.name, d.qual, d.params, .stmts d.body, d.scope, mainGlobals, .none, builtinsNs) ∧ okAt K (d.adr K) d.qual d.sup = true := by
  have c2 := (He.ba (show (B K && fn.all fun d => okAt K (d.adr K) d.qual d.sup) = true from congrArg (fun z : AlB => z.1) c)).2
  have e : fn.map (fun d => obsAt K (d.adr K)) = fn.map FnX.val := congrArg (fun z : AlB => z.2) c
  have e2 : (fn.map fun d => obsAt K (d.adr K))[i]? = (fn.map FnX.val)[i]? := by rw [e]
  rw [List.getElem?_map, List.getElem?_map, h] at e2
  exact ⟨Option.some.inj e2, List.all_eq_true.mp c2 d (List.mem_of_getElem? h)⟩
end
end Hd
namespace L2
open PySem PySem.Spec PyProof.Rows
/-! ## x in o, x not in o: o an own instance of the class at C -/
def rInO (C : Addr) (sp : Sp) (E : XK) (neg : Bool) : R2 := fun x y H Q => ∃ a dx fs, y = .ref a ∧ H a = some (.ins C dx fs) ∧ sp [y, x] H (fun z H' => ∃ b, z = .bl b ∧ Q (.bl (if neg then !b else b)) H') E
section
variable {X : Cx} {CX : CXT} {k : Nat} {C f : Addr} {fd : FuncData} {ps : List Str} {sp : Sp} {E : XK}
theorem op_inO (F : FnOk X.prog X.w X.K X.mg X.base CX k f fd ps sp) (hr : Room k X.A) (hb : Binds X.K fd ps []) (hx : Passes CX X E)
    (hs : PySem.W.findIn X.K (.ref C) "__contains__" = some (some (.ref f))) (hfn : PySem.W.isFn X.K (.ref f) = true) : OpR X (compareOp .In) (rInO C sp E false) := by
  intro pins s σ H x y v u Q I rx ry h
  obtain ⟨a, dx, fs, rfl, ha, q⟩ := h
  cases (show u = Value.ref a from ry)
  obtain ⟨mA, O, _⟩ := ins_get I.hok ha
  obtain ⟨od, J, _⟩ := O.look
  obtain ⟨m, hF⟩ := I.fr
  refine PySem.W.in_K hF I.ok.mod.kin J hs hfn ?_
  refine wpAny_mono (run_fn (us := [.ref a, v]) (vs := [.ref a, x]) F hr hb .nil hx I (.cons rfl (.cons rx .nil)) q) (fun w s' z => ?_) fun _ _ x => x
  obtain ⟨z', H', I', rz, b, rfl, qz⟩ := z
  cases rz
  exact wpAny_truthy_bool ⟨.bl b, H', I', rfl, qz⟩
theorem op_notInO (F : FnOk X.prog X.w X.K X.mg X.base CX k f fd ps sp) (hr : Room k X.A) (hb : Binds X.K fd ps []) (hx : Passes CX X E)
    (hs : PySem.W.findIn X.K (.ref C) "__contains__" = some (some (.ref f))) (hfn : PySem.W.isFn X.K (.ref f) = true) : OpR X (compareOp .NotIn) (rInO C sp E true) := by
  intro pins s σ H x y v u Q I rx ry h
  obtain ⟨a, dx, fs, rfl, ha, q⟩ := h
  cases (show u = Value.ref a from ry)
  obtain ⟨mA, O, _⟩ := ins_get I.hok ha
  obtain ⟨od, J, _⟩ := O.look
  obtain ⟨m, hF⟩ := I.fr
  refine PySem.W.notIn_K hF I.ok.mod.kin J hs hfn ?_
  refine wpAny_mono (run_fn (us := [.ref a, v]) (vs := [.ref a, x]) F hr hb .nil hx I (.cons rfl (.cons rx .nil)) q) (fun w s' z => ?_) fun _ _ x => x
  obtain ⟨z', H', I', rz, b, rfl, qz⟩ := z
  cases rz
  exact wpAny_truthy_bool ⟨.bl !b, H', I', rfl, qz⟩
end
end L2
namespace L2
open PySem PySem.Spec PyProof.Rows
/-- x in t, t a tuple of data -/
def rInT (K : PySem.W.Frag) : R2 := fun x y H Q => ∃ d ds, Dp K H x d ∧ Dp K H y (.tuple ds) ∧ SeqAt.shaped d = true ∧ SeqAt.shaped (.tuple ds) = true ∧ Q (.bl (ds.any fun z => PyData.eqv z d)) H
/-- a op b (a comparison), both own instances of the class at C -/
def rCmp (C : Addr) (sp : Sp) (E : XK) : R2 := fun x y H Q => ∃ a dx fs b dy gs, x = .ref a ∧ y = .ref b ∧ H a = some (.ins C dx fs) ∧ H b = some (.ins C dy gs) ∧ sp [x, y] H Q E
section
variable {X : Cx} {CX : CXT} {k : Nat} {C f : Addr} {fd : FuncData} {ps : List Str} {sp : Sp} {E : XK}
theorem op_inT (hu : X.A.units + 65 < cLine) : OpR X (compareOp .In) (rInT X.K) := by
  intro pins s σ H x y v u Q I rx ry h
  obtain ⟨d, ds, hd, he, sd, se, q⟩ := h
  obtain ⟨as, r1⟩ := Dp.reads I d x v hd rx
  obtain ⟨bs, r2⟩ := Dp.reads I (.tuple ds) y u he ry
  have hx : PyData.canLayAll0 ds = true := SeqAt.canLay_of_shaped se
  exact SeqAt.in_tuple_reads r2 r1 hx (SeqAt.canLay_of_shaped sd) (by have := SeqAt.depth_of_shaped sd; have h2 := Nat.min_le_right (PyData.depthAll ds) d.depth; omega) ⟨.bl _, H, I, rfl, q⟩
theorem op_cmp {op : CmpOp} (hop : ∀ a b, compareOp op a b = richCompare op a b) (F : FnOk X.prog X.w X.K X.mg X.base CX k f fd ps sp) (hr : Room k X.A) (hb : Binds X.K fd ps []) (hx : Passes CX X E) (hn : PySem.W.notFirst X.K C (.ref C) = true)
    (hs : PySem.W.findIn X.K (.ref C) (cmpInfo op).2.1 = some (some (.ref f))) (hfn : PySem.W.isFn X.K (.ref f) = true) : OpR X (compareOp op) (rCmp C sp E) := by
  intro pins s σ H x y v u Q I rx ry h
  obtain ⟨a, dx, fs, b, dy, gs, rfl, rfl, ha, hb', q⟩ := h
  cases (show v = Value.ref a from rx)
  cases (show u = Value.ref b from ry)
  obtain ⟨mA, O, _⟩ := ins_get I.hok ha
  obtain ⟨od, J, _⟩ := O.look
  obtain ⟨mB, O', _⟩ := ins_get I.hok hb'
  obtain ⟨od', J', _⟩ := O'.look
  obtain ⟨m, hF⟩ := I.fr
  rw [hop]
  refine PySem.W.cmp_K (op := op) (tb := .ref C) hr.units0 hF I.ok.mod.kin J J'.type hn hs hfn ?_
  refine wpAny_mono (run_fn (us := [.ref a, .ref b]) (vs := [.ref a, .ref b]) F hr hb .nil hx I (.cons rfl (.cons rfl .nil)) q) (fun w s' z => ?_) fun _ _ x => x
  obtain ⟨z', H', I', rz, qz⟩ := z
  exact SlX.cmpback rz ⟨z', H', I', rz, qz⟩
end
end L2
namespace L2
open PySem PySem.Spec PyProof.Rows
/-! ## own operators of an instance with a dict -/
/-- x[i], x an own instance -/
def rIxO (C : Addr) (sp : Sp) (E : XK) : R2 := fun x y H Q => ∃ a dx fs, x = .ref a ∧ H a = some (.ins C dx fs) ∧ sp [x, y] H Q E
section
variable {X : Cx} {CX : CXT} {k : Nat} {C f : Addr} {fd : FuncData} {ps : List Str} {sp : Sp} {E : XK} {a b : Expr} {ta tb : TE} {pos : Pos}
theorem pe_ixOwn (F : FnOk X.prog X.w X.K X.mg X.base CX k f fd ps sp) (hr : Room (k + 1) X.A) (hb : Binds X.K fd ps []) (hx : Passes CX X.nox E) (hs : PySem.W.findIn X.K (.ref C) "__getitem__" = some (some (.ref f))) (hf : PySem.W.fnIn X.K f = true)
    (hfn : PySem.W.isFn X.K (.ref f) = true) (ha : PE X a ta) (hbb : PE X b tb)
    (hsl : ∀ o i, subscripted b true o i = runValue (.builtin "lifetime.subscript" ⟨[o, i], []⟩) := by intro _ _; rfl) :
    PE X (.Subscript a b pos) (tOp (rIxO C sp E) ta tb) := by
  refine ⟨fun pins s σ H Q I h => ?_⟩
  refine Subscript_ (binT ha hbb I h fun v u s2 x y H2 I2 rx ry q => ?_)
  obtain ⟨o, dx, fs, rfl, ea, q⟩ := q
  cases (show v = Value.ref o from rx)
  obtain ⟨mA, O, _⟩ := ins_get I2.hok ea
  obtain ⟨od, J, _⟩ := O.look
  obtain ⟨m, hF⟩ := I2.fr
  refine PySem.W.sub_K hF I2.ok.mod.kin J hs hf hfn ?_ (hsl _ _)
  have hl : ([Value.ref o, u] ++ []).length = ps.length := by
    rw [List.append_nil]
    exact F.len _ _ _ _ q
  refine wpAny_call (codeAny_mono (F.run X.A.in1 X.stack s2 H2 ⟨[.ref o, u], []⟩ ([.ref o, u] ++ []) [.ref o, y] Q E hr.in1 I2.env0.in1 (hb _ [.ref o, u] I2.kIn hl) (.cons rfl (.cons ry .nil)) q) fun r s' hq => ?_)
  cases r with
  | error er => exact False.elim (hx pins σ H2 s2 er s' (I2.wish _) hq)
  | ok fl =>
    cases fl with
    | ret u' => exact I2.after hq
    | next => exact False.elim hq
    | brk => exact False.elim hq
    | cont => exact False.elim hq
/-- a op b, both own instances of the class at C -/
def rBin (C : Addr) (sp : Sp) (E : XK) : R2 := fun x y H Q => ∃ a dx fs b dy gs, x = .ref a ∧ y = .ref b ∧ H a = some (.ins C dx fs) ∧ H b = some (.ins C dy gs) ∧ sp [x, y] H Q E
theorem op_bin {op : Operator} (F : FnOk X.prog X.w X.K X.mg X.base CX k f fd ps sp) (hr : Room k X.A) (hb : Binds X.K fd ps []) (hx : Passes CX X E) (hc : PySem.W.selfFirst X.K C = true)
    (hs : PySem.W.findIn X.K (.ref C) (PySem.dunder op.info.2) = some (some (.ref f))) (hfn : PySem.W.isFn X.K (.ref f) = true) : OpR X (binaryOp op) (rBin C sp E) := by
  intro pins s σ H x y v u Q I rx ry h
  obtain ⟨a, dx, fs, b, dy, gs, rfl, rfl, ha, hb', q⟩ := h
  cases (show v = Value.ref a from rx)
  cases (show u = Value.ref b from ry)
  obtain ⟨mA, O, _⟩ := ins_get I.hok ha
  obtain ⟨od, J, _⟩ := O.look
  obtain ⟨mB, O', _⟩ := ins_get I.hok hb'
  obtain ⟨od', J', _⟩ := O'.look
  obtain ⟨m, hF⟩ := I.fr
  refine PySem.W.binop_K hF I.ok.mod.kin J J'.type hc hs hfn ?_
  refine wpAny_mono (run_fn (us := [.ref a, .ref b]) (vs := [.ref a, .ref b]) F hr hb .nil hx I (.cons rfl (.cons rfl .nil)) q) (fun w s' z => ?_) fun _ _ x => x
  obtain ⟨z', H', I', rz, qz⟩ := z
  exact SlX.cmpback rz ⟨z', H', I', rz, qz⟩
/-- ~x -/
def rInv (C : Addr) (sp : Sp) (E : XK) : V → Hp → VK → Prop := fun x H Q => ∃ a dx fs, x = .ref a ∧ H a = some (.ins C dx fs) ∧ sp [x] H Q E
theorem un_own (F : FnOk X.prog X.w X.K X.mg X.base CX k f fd ps sp) (hr : Room k X.A) (hb : Binds X.K fd ps []) (hx : Passes CX X E)
    (hs : PySem.W.findIn X.K (.ref C) "__invert__" = some (some (.ref f))) (hfn : PySem.W.isFn X.K (.ref f) = true) : UnR X (unaryOp .Invert) (rInv C sp E) := by
  intro pins s σ H x v Q I rx h
  obtain ⟨a, dx, fs, rfl, ha, q⟩ := h
  cases (show v = Value.ref a from rx)
  obtain ⟨mA, O, _⟩ := ins_get I.hok ha
  obtain ⟨od, J, _⟩ := O.look
  obtain ⟨m, hF⟩ := I.fr
  refine PySem.W.ksp_inv hF I.ok.mod.kin J hs hfn ?_
  exact run_fn (us := [.ref a]) (vs := [.ref a]) F hr hb .nil hx I (.cons rfl .nil) q
end
end L2
namespace PySem
open AutoSeq1 (wpAny_loadPart')
theorem meets_enumerate_new1 {v : Value} {o : Obj} {H : Heap → Prop} (B : Begins v o H) :
    Meets (Builtin.«enumerate.__new__» ⟨[.type "enumerate", v], []⟩) (fun _ R s => H s.heap ∧
      R (.ok (.ret (.ref (s.heap.push o).objs.size))) { s with heap := (s.heap.push o).push { cls := .type "enumerate", data := .fields #[.none, .bool false, .ref s.heap.objs.size, rawInt 0, .none, .none] } }) :=
  .of_wp fun prog w A R s h => by
    obtain ⟨hp, g, d, tk, os⟩ := s; obtain ⟨h1, h⟩ := h
    have hsub := sub_enumerate
    have q1 : ∀ {A' : Around} {E : Value → Shared → Prop} {Q : Value → Shared → Prop}, Q (.ref hp.objs.size) ⟨hp.push o, g, d, tk, os⟩ → wpAny (model prog w) A' (pyIter v) Q E ⟨hp, g, d, tk, os⟩ :=
      fun q => B.iter prog w _ _ ⟨hp, g, d, tk, os⟩ _ h1 q
    wp_walk using q1
    refine wpAny_stack_any fun st => wpAny_pure ?_
    split
    · rename_i c _ _ _ _ _
      cases (c == Value.type "enumerate")
      · wp_walk using q1
        exact ⟨_, rfl, h⟩
      · wp_walk using q1
        exact ⟨_, rfl, h⟩
    · wp_walk using q1
      exact ⟨_, rfl, h⟩
section
variable {prog : Program} {w : World} {A : Around} {E : Value → Shared → Prop} {s : Shared}
theorem enum_begins1 {v : Value} {o : Obj} {H : Heap → Prop} {Q : Value → Shared → Prop} (B : Begins v o H) (h1 : H s.heap)
    (h : ∀ h', IsEnum h' (s.heap.objs.size + 1) s.heap.objs.size 0 .none → h'.get? s.heap.objs.size = some o → h'.objs.size = s.heap.objs.size + 2 →
      (∀ b o, s.heap.get? b = some o → h'.get? b = some o) → Q (.ref (s.heap.objs.size + 1)) { s with heap := h' }) :
    wpAny (model prog w) A (call (.type "enumerate") [v]) Q E s := by
  refine callType_new F.called_enumerate (by decide) (F.typeCall_enumerate_1 _) (F.newCall_enumerate_1 _) (fun obj => F.args_object_init_2 obj _) F.entry_enumerate_new
    (meets_enumerate_new1 B) ⟨h1, ?_⟩
  have hz : (s.heap.push o).objs.size = s.heap.objs.size + 1 := Heap.size_push ..
  show _ ∧ _
  rw [hz]
  have he : IsEnum ((s.heap.push o).push { cls := .type "enumerate", data := .fields #[.none, .bool false, .ref s.heap.objs.size, rawInt 0, .none, .none] }) (s.heap.objs.size + 1) s.heap.objs.size 0 .none := by
    have := Heap.get?_push_size (s.heap.push o) (o := { cls := .type "enumerate", data := .fields #[.none, .bool false, .ref s.heap.objs.size, rawInt 0, .none, .none] }) rfl
    rw [hz] at this; exact this
  refine ⟨⟨_, he, rfl⟩, h _ he (Heap.get?_push_of_some _ (Heap.get?_push_size _ B.free)) (by rw [Heap.size_push, hz]) fun b o x => Heap.get?_push_of_some _ (Heap.get?_push_of_some _ x)⟩
end
end PySem
namespace L2
open PySem PySem.Spec PyProof.Rows
/-- the tuple at a, each item in a new pair -/
def Itet (K : PySem.W.Frag) (a : Addr) : It :=
  ⟨fun i H => ∃ (xs : List V) (x : V), SqT K H a xs ∧ xs[i]? = some x, fun i H v H' => ∃ T x, v = .ref T ∧ H T = none ∧ H' = upd H T (.tup [.int (i : Nat), x]) ∧ ∀ xs, SqT K H a xs → xs[i]? = some x, fun i H => ∃ xs : List V, SqT K H a xs ∧ xs.length = i⟩
theorem tup_ne_iter {h : Heap} {a it : Addr} {items : Array Value} {i : Nat} (p : h.IsTuple a items) (q : h.IsTupleIter it a i) : a ≠ it := fun z => by
  obtain ⟨o, h1, h2, _⟩ := p
  obtain ⟨o', h3, h4, _⟩ := q
  rw [z, h3] at h1
  cases h1
  rw [h4] at h2
  injection h2 with h2
  exact absurd h2 (by decide)
theorem turn_enumT {P : Program} {w : World} {K : PySem.W.Frag} {elts : List Expr} {kk : Nat} {tpos : Pos} (a e it : Addr) :
    Turn P w K (.Tuple elts kk tpos) (Itet K a) [e, it] e (fun i h => (∃ old, IsEnum h e it ((i : Nat) : Int) old) ∧ h.IsTupleIter it a i ∧ e ≠ it) where
  mem := by simp
  obj := fun i h st b hb => by
    obtain ⟨⟨old, he⟩, ⟨o, ho, hc, hd⟩, _⟩ := st
    have e' : b = e ∨ b = it := by simpa using hb
    rcases e' with z | z
    · rw [z]; exact ⟨_, he, fun v q => nomatch q⟩
    · rw [z]; exact ⟨o, ho, fun v q => by rw [hd] at q; cases q⟩
  keep := fun i h h' st k => let ⟨⟨old, he⟩, hi, hne⟩ := st; ⟨⟨old, k e (by simp) _ he⟩, hi.at fun o q => k it (by simp) o q, hne⟩
  item := by
    intro X hP hw hK hc i pins s σ H E I hf st hg
    subst hP hw hK
    obtain ⟨⟨old, he⟩, hit, hne⟩ := st
    obtain ⟨xs, x, hq, hx⟩ := hg
    obtain ⟨its, rv, p, hz⟩ := I.tuple hq
    obtain ⟨u, hu, ru⟩ := rv.get hx
    have p' : s.heap.IsTuple a its.toArray := p
    have hai := tup_ne_iter p' hit
    have hea : e ≠ a := fun z => by
      obtain ⟨o, h1, h2, _⟩ := p'
      rw [← z, he] at h1
      cases h1
      replace h2 : Value.type "enumerate" = Value.type "tuple" := h2
      injection h2 with h2
      exact absurd h2 (by decide)
    have hel : e < s.heap.objs.size := Heap.lt_size he
    have hil : it < s.heap.objs.size := by obtain ⟨_, q, _⟩ := id hit; exact Heap.lt_size q
    have hi : i < its.toArray.size := by
      have := (List.getElem?_eq_some_iff.mp hu).1
      simpa using this
    have D := Draws.tuple (prog := X.prog) (w := X.w) (A := X.A.in1) (show X.A.in1.handled = none from I.ok.hd hc) it a hai its.toArray
    refine wpAny_pyNext_enum_itemD D he ⟨hit, p'⟩ hi hne (by simp [hne, hea]) fun x' h' tk hP ho st' hT hsz hk => ?_
    have ex : x' = u := by
      have : its[i]? = some x' := by simpa using hP
      rw [hu] at this
      exact (Option.some.inj this).symm
    subst ex
    refine ⟨_, rfl, wpAny_letOwnedTupleGo_enum (s := { s with heap := h', toks := tk + 1 }) ho fun h'' he' sb => ?_⟩
    have hT2 : h''.get? s.heap.objs.size = some { cls := .type "tuple", data := .seq #[.int i tk, x'] } := (sb.2 _ (Nat.ne_of_gt hel)).trans hT
    have new : ObjOk X.prog X.w (upd H s.heap.objs.size (.tup [.int (i : Nat), x])) h'' s.heap.objs.size (.tup [.int (i : Nat), x]) :=
      ⟨by show 2 ≤ sizeLine; decide, [.int i tk, x'], .cons ⟨_, rfl⟩ (.cons ru .nil), ⟨_, hT2, rfl, _, rfl⟩⟩
    have I1 : Inv X pins σ (upd H s.heap.objs.size (.tup [.int (i : Nat), x])) { s with heap := h'', toks := tk + 1 } :=
      I.turnedNew (ch := [e, it]) (fun b ob hb q => (sb.2 b (fun z => hb (by simp [z]))).trans (hk b ob (fun z => hb (by simp [z])) (fun z => hb (by simp [z])) q)) hf (Nat.le_refl _) new
    refine ⟨.ref s.heap.objs.size, _, I1, rfl, ⟨_, x, rfl, I.hok.fresh (Nat.le_refl _), rfl, fun ys hy => by rw [I.tuple_inj hy hq]; exact hx⟩, ⟨⟨x', ?_⟩, st'.1.at fun o q => (sb.2 it (Ne.symm hne)).trans q, hne⟩, fun b hb => ?_⟩
    · have e1 : ((i + 1 : Nat) : Int) = (i : Int) + 1 := by omega
      rw [e1]; exact he'
    · have hb' : b < s.heap.objs.size := by
        have e' : b = e ∨ b = it := by simpa using hb
        rcases e' with z | z
        · rw [z]; exact hel
        · rw [z]; exact hil
      rw [upd_ne (Nat.ne_of_lt hb')]
      exact (hf b hb).1
  done := by
    intro X hP hw hK hc i pins s σ H E I hf st hg
    subst hP hw hK
    obtain ⟨⟨old, he⟩, hit, hne⟩ := st
    obtain ⟨xs, hq, hx⟩ := hg
    obtain ⟨its, rv, p, hz⟩ := I.tuple hq
    have p' : s.heap.IsTuple a its.toArray := p
    have hai := tup_ne_iter p' hit
    obtain ⟨f0, f1, f2, f3, f4, f5⟩ := hf it (by simp)
    have hl := rv.length
    have en : i = its.toArray.size := by simp; omega
    subst en
    have D := Draws.tuple (prog := X.prog) (w := X.w) (A := X.A.in1) (show X.A.in1.handled = none from I.ok.hd hc) it a hai its.toArray
    exact wpAny_pyNext_enum_endD D he ⟨hit, p'⟩ fun h' eb => ⟨rfl, I.turned (t' := s.toks) (fun b o hb q => eb b o hb q) f0 f1 f3 f4 f5⟩
  self := fun A i s Q E st h => let ⟨⟨_, he⟩, _⟩ := st; wpAny_pyIter_enum he h
def iEnumT (K : PySem.W.Frag) (ta : TA) : TI := fun σ H R => ta σ H fun vs H1 => ∃ a xs, vs = [.ref a] ∧ SqT K H1 a xs ∧ R (Itet K a) H1
theorem pi_enumT {X : Cx} {e : Expr} {ta : TA} {p pos tpos : Pos} {elts : List Expr} {kk : Nat} (hg : Gl X "enumerate") (hm : X.mg "enumerate" = none) (ha : PA X [e] ta) (hs : starEach [e] X.env = [(false, eval e X.env)] := by rfl) :
    PI X (.Tuple elts kk tpos) (.Call (.Name "enumerate" p) [e] [] pos) (iEnumT X.K ta) := by
  refine ⟨fun pins s σ H R I h => ?_⟩
  refine Call_ (ld_blt I hg hm boot_enumerate (PyProof.Rows.callWith_type1 (thn (ha.run pos pins s σ H _ I h) fun us s1 ⟨vs, H1, I1, r1, q1⟩ => ?_) hs rfl))
  obtain ⟨a, xs, ex, hq, q⟩ := q1
  subst ex
  cases r1 with
  | cons r rr =>
    cases rr
    cases r
    obtain ⟨its, rv, p', hz⟩ := I1.tuple hq
    refine enum_begins1 (begins_tuple a its.toArray) (show s1.heap.IsTuple a its.toArray from p') fun h' he hit hsz hk => wpAny_pyIter_enum he ?_
    have I2 : Inv X pins σ H1 { s1 with heap := h' } := I1.kept (t' := s1.toks) hk
    refine ⟨s1.heap.objs.size + 1, [s1.heap.objs.size + 1, s1.heap.objs.size], _, _, H1, rfl, I2, turn_enumT a (s1.heap.objs.size + 1) s1.heap.objs.size, ⟨⟨.none, he⟩, ⟨_, hit, rfl, rfl⟩, Nat.succ_ne_self _⟩, fun b hb => ?_, q⟩
    have e' : b = s1.heap.objs.size + 1 ∨ b = s1.heap.objs.size := by simpa using hb
    have hle : s1.heap.objs.size ≤ b := by
      rcases e' with z | z
      · rw [z]; exact Nat.le_add_right _ _
      · rw [z]; exact Nat.le_refl _
    exact I1.fpOk hle (I1.hok.fresh hle)
end L2
namespace Toy
open PySem L2
/-! ### data -/
def vI (ns : List Int) : List V := ns.map V.int
def asc (ns : List Int) (n : Nat) : List Int := ((List.range n).filter fun (i : Nat) => decide ((i : Int) ∈ ns)).map fun (i : Nat) => (i : Int)
def isW (n : Nat) (x : Int) : Bool := decide (0 ≤ x) && decide (x < (n : Int))
/-- a list or a tuple of the vI ns -/
def Sq (K : PySem.W.Frag) (H : Hp) (a : Addr) (ns : List Int) : Prop := SqL K H a (vI ns) ∨ SqT K H a (vI ns)
theorem inV_vI (x : Int) : ∀ ns : List Int, inV (.int x) (vI ns) = decide (x ∈ ns)
  | [] => by simp [inV, vI]
  | y :: r => by
    have ih := inV_vI x r
    show ((y == x) || inV (.int x) (vI r)) = decide (x ∈ y :: r)
    rw [ih]
    by_cases h : y = x
    · subst h
      simp
    · have h' : ¬ x = y := fun z => h z.symm
      simp [h, h']
theorem flat_vI : ∀ ns : List Int, (vI ns).all flatV = true
  | [] => rfl
  | _ :: r => flat_vI r
theorem Sq.same {K : PySem.W.Frag} {H H' : Hp} {a : Addr} {ns : List Int} (s : Same H H') (h : Sq K H a ns) : Sq K H' a ns := by
  rcases h with h | h
  · exact .inl (s.seq h)
  · refine .inr ?_
    rcases h with (h | ⟨o, h⟩) | h
    · exact .inl (.inl (s _ _ h))
    · exact .inl (.inr ⟨o, s _ _ h⟩)
    · exact .inr h
theorem Same.upd {H H' : Hp} {p : Addr} {o : HO} (s : Same H H') (n : H' p = none) : Same H (L2.upd H' p o) := fun b u e => by
  rw [upd_ne (ne_of_none (s b u e) n)]
  exact s b u e
theorem asc_succ (ns : List Int) (i : Nat) : asc ns (i + 1) = if (i : Int) ∈ ns then asc ns i ++ [(i : Int)] else asc ns i := by
  unfold asc
  rw [List.range_succ, List.filter_append]
  by_cases h : (i : Int) ∈ ns
  · rw [if_pos h]
    simp [h]
  · rw [if_neg h]
    simp [h]
theorem asc_len (ns : List Int) (n : Nat) : (asc ns n).length ≤ n := by
  unfold asc
  rw [List.length_map]
  exact Nat.le_trans (List.length_filter_le _ _) (by simp)
theorem yesT {σ : St} {H : Hp} {R : Bool → Hp → Prop} (h : R true H) : tYes σ H R := h
theorem vI_at {ns : List Int} {i : Nat} {y : V} (h : (vI ns)[i]? = some y) : ∃ x, ns[i]? = some x ∧ y = V.int x := by
  unfold vI at h
  rw [List.getElem?_map] at h
  cases e : ns[i]? with
  | none =>
    rw [e] at h
    cases h
  | some x =>
    rw [e] at h
    exact ⟨x, rfl, (Option.some.inj h).symm⟩
theorem take_more {α : Type} : ∀ {l : List α} {i : Nat} {x : α}, l[i]? = some x → l.take (i + 1) = l.take i ++ [x]
  | [], i, x, h => by simp at h
  | a :: l, 0, x, h => by
    have e : a = x := Option.some.inj h
    subst e
    rfl
  | a :: l, i + 1, x, h => by
    have ih := take_more (l := l) (i := i) (x := x) h
    show a :: l.take (i + 1) = a :: l.take i ++ [x]
    rw [ih]
    rfl
/-! ### the text by places -/
def top (i : Nat) : Stmt := PySem.Challenge.pw_murmurline_k32_whole_only_loses_more.main.body.getD i (.Pass ⟨0, 0, 0, 0⟩)
abbrev sIsSize : Stmt := top 8
abbrev sCheckSize : Stmt := top 9
abbrev sIsWord : Stmt := top 11
abbrev sAllWords : Stmt := top 12
abbrev sCheckWord : Stmt := top 13
abbrev sAsc : Stmt := top 15
/-! ### promises -/
def spIsWord : Sp := fun vs H Q _ => ∃ (x : Int) (n : Nat), vs = [.int x, .int n] ∧ Q (.bl (isW n x)) H
def spAllWords (K : PySem.W.Frag) : Sp := fun vs H Q _ => ∃ (a : Addr) (ns : List Int) (n : Nat), vs = [.ref a, .int n] ∧ SqL K H a (vI ns) ∧ ns.length < sizeLine ∧ ∀ H', Same H H' → Q (.bl (ns.all (isW n))) H'
def spAsc (K : PySem.W.Frag) : Sp := fun vs H Q _ => ∃ (a : Addr) (ns : List Int) (n : Nat), vs = [.ref a, .int n] ∧ Sq K H a ns ∧ n ≤ 6 ∧ ∀ H' p, Same H H' → H p = none → H' p = some (.lst (vI (asc ns n))) → Q (.ref p) H'
structure Bt (mg : Str → Option Value) : Prop where
  len : mg "len" = none
  range : mg "range" = none
  all : mg "all" = none
  list : mg "list" = none
  tuple : mg "tuple" = none
  enumerate : mg "enumerate" = none
  isinstance : mg "isinstance" = none
  int : mg "int" = none
  bool : mg "bool" = none
  str : mg "str" = none
  abs : mg "abs" = none
section
variable {P : Program} {w : World} {K : PySem.W.Frag} {mg : Str → Option Value} {base : Heap}
theorem scIsWord : FnScope ["word", "size"] ["word", "size"] (defScope sIsWord) := ⟨rfl, rfl, rfl, by decide +kernel, rfl, by decide +kernel, by decide +kernel⟩
theorem ok_isWord {f : Addr} {fd : FuncData} (F : Fun K "is_word" "is_word" sIsWord f fd) : FnOk P w K mg base CX0 1 f fd ["word", "size"] spIsWord := by
  refine F.ok scIsWord (fun vs H Q E h => ?_) (fun cdv A outer s H vs Q E hr h => ?_)
  · obtain ⟨x, n, rfl, _⟩ := h
    rfl
  · obtain ⟨x, n, rfl, k⟩ := h
    refine ⟨_, pss_one (ps_ret (pe_chain op_le op_lt pe_int (pv 0) (pv 1))), ?_⟩
    refine ⟨_, rfl, _, _, rfl, rfl, _, rfl, ?_⟩
    by_cases h0 : (0 : Int) ≤ x
    · rw [decide_eq_true h0]
      refine iteT ⟨_, rfl, _, _, rfl, rfl, ?_⟩
      have e : isW n x = decide (x < (n : Int)) := by unfold isW; rw [decide_eq_true h0]; rfl
      rw [e] at k
      exact k
    · rw [decide_eq_false h0]
      refine iteF ?_
      have e : isW n x = false := by unfold isW; rw [decide_eq_false h0]; rfl
      rw [e] at k
      exact k
theorem scAllWords : FnScope ["words", "size", "word"] ["words", "size"] (defScope sAllWords) := ⟨rfl, rfl, rfl, by decide +kernel, rfl, by decide +kernel, by decide +kernel⟩
theorem ok_allWords {f g : Addr} {fd fdg : FuncData} (F : Fun K "all_words" "all_words" sAllWords f fd) (B : Bt mg) (G : Fun K "is_word" "is_word" sIsWord g fdg) (mgG : mg "is_word" = some (.ref g)) (bG : Binds K fdg ["word", "size"] []) :
    FnOk P w K mg base CX0 2 f fd ["words", "size"] (spAllWords K) := by
  refine F.ok scAllWords (fun vs H Q E h => ?_) (fun cdv A outer s H vs Q E hr h => ?_)
  · obtain ⟨a, ns, n, rfl, _⟩ := h
    rfl
  · obtain ⟨a, ns, n, rfl, hS, hlen, k⟩ := h
    refine ⟨_, pss_one (ps_ret (pe_callB (cr_all rfl) (by rfl) B.all (by decide +kernel) (pa_cons (pe_lc (own := [("word", 2)]) (g := gName 2) (tt := tYes) rfl scAllWords.nd (pi_list (pv 0)) (blkOk_by (own := [("word", 2)]) (N := ["words", "size", "word"]) (sc := defScope sAllWords) (by decide +kernel))
      (fun _ _ _ _ _ => pg_name (i := 2) scAllWords.nd rfl (Or.inl rfl)) (fun _ _ _ _ _ => pts_nil)
      (fun _ _ _ _ _ => pe_call (ok_isWord G) hr rfl mgG G.kp bG .nil pass0 (pa_cons (pv 2) (pa_cons (pv 1) pa_nil)))) pa_nil))), ?_⟩
    refine ⟨_, rfl, a, rfl, ⟨_, hS⟩, fun D hD => ?_⟩
    refine lc_list (K := K) (a := a) (xs := vI ns) (fun i H' => Same H H' ∧ H' D = some (.lst ((ns.take i).map fun x => V.bl (isW n x)))) ⟨Same.upd (Same.refl H) hD, upd_same⟩ (fun i H' _ ⟨s, _⟩ => s.seq hS) ?_ ?_
    · rintro i y H' hi ⟨s, hd⟩
      obtain ⟨x, hx, rfl⟩ := vI_at hi
      refine ⟨rfl, ?_⟩
      refine yesT ?_
      refine iteT ?_
      refine ⟨_, rfl, _, rfl, x, n, rfl, ?_⟩
      refine ⟨_, hd, ?_, ?_, ?_⟩
      · rw [List.length_map]
        exact Nat.lt_of_le_of_lt (List.length_take_le' _ _) hlen
      · exact fun b u e => (ne_of_none e hD) |> fun z => by rw [upd_ne z]; exact s b u e
      · rw [upd_same, take_more hx, List.map_append]
        rfl
    · rintro H' ⟨s, hd⟩
      have el : (vI ns).length = ns.length := List.length_map ..
      rw [el, List.take_length] at hd
      refine ⟨D, ns.map (isW n), rfl, SqL.of ?_, ?_⟩
      · rw [hd, List.map_map]
        rfl
      · have := k H' s
        rw [List.all_map]
        exact this
theorem scIsSize : FnScope ["size"] ["size"] (defScope sIsSize) := ⟨rfl, rfl, rfl, by decide +kernel, rfl, by decide +kernel, by decide +kernel⟩
structure CT (K : PySem.W.Frag) (mg : Str → Option Value) (C : Addr) : Prop where
  mgC : mg "Table" = some (.ref C)
  cl : Cls K C
  rd : ClX.CRead K C (.type "type")
  most : ∃ t, PySem.W.findCls K (.ref C) (.type "type") "MOST" = some (.val (.int 6 t))
  nS : NoAttr K C "size"
  nR : NoAttr K C "_rows"
  nP : NoAttr K C "_pairs"
def spIsSize : Sp := fun vs H Q _ => ∃ n : Int, vs = [.int n] ∧ Q (.bl (decide (1 ≤ n) && decide (n ≤ 6))) H
theorem ok_isSize {f C : Addr} {fd : FuncData} (F : Fun K "is_size" "is_size" sIsSize f fd) (T : CT K mg C) : FnOk P w K mg base CX0 1 f fd ["size"] spIsSize := by
  refine F.ok scIsSize (fun vs H Q E h => ?_) (fun cdv A outer s H vs Q E hr h => ?_)
  · obtain ⟨n, rfl, _⟩ := h
    rfl
  · obtain ⟨n, rfl, k⟩ := h
    obtain ⟨t, hm⟩ := T.most
    refine ⟨_, pss_one (ps_ret (pe_chain op_le op_le pe_int (pv 0) (ClX.pe_cval (pe_glob rfl T.mgC (v := .ref C) rfl)))), ?_⟩
    refine ⟨_, rfl, _, _, rfl, rfl, _, rfl, ?_⟩
    by_cases h0 : (1 : Int) ≤ n
    · rw [decide_eq_true h0] at k ⊢
      refine iteT ⟨C, _, .int 6, _, rfl, T.rd, ⟨hm, _, rfl⟩, _, _, rfl, rfl, ?_⟩
      exact k
    · rw [decide_eq_false h0] at k ⊢
      refine iteF ?_
      exact k
theorem scCheckSize : FnScope ["size"] ["size"] (defScope sCheckSize) := ⟨rfl, rfl, rfl, by decide +kernel, rfl, by decide +kernel, by decide +kernel⟩
def spCheckSize : Sp := fun vs H Q _ => ∃ n : Int, vs = [.int n] ∧ 1 ≤ n ∧ n ≤ 6 ∧ Q .non H
theorem ok_checkSize {f g C : Addr} {fd fdg : FuncData} (F : Fun K "check_size" "check_size" sCheckSize f fd) (T : CT K mg C) (G : Fun K "is_size" "is_size" sIsSize g fdg) (mgG : mg "is_size" = some (.ref g)) (bG : Binds K fdg ["size"] []) :
    FnOk P w K mg base CX0 2 f fd ["size"] spCheckSize := by
  refine F.ok scCheckSize (fun vs H Q E h => ?_) (fun cdv A outer s H vs Q E hr h => ?_)
  · obtain ⟨n, rfl, _⟩ := h
    rfl
  · obtain ⟨n, rfl, h1, h2, k⟩ := h
    refine ⟨_, pss_one (ps_if (pt_not (pt_val (pe_call (ok_isSize G T) hr rfl mgG G.kp bG .nil pass0 (pa_cons (pv 0) pa_nil)))) (pss_one ps_never) pss_nil), ?_⟩
    refine ⟨_, rfl, n, rfl, _, rfl, ?_⟩
    rw [decide_eq_true h1, decide_eq_true h2]
    exact iteF k
theorem scCheckWord : FnScope ["word", "size"] ["word", "size"] (defScope sCheckWord) := ⟨rfl, rfl, rfl, by decide +kernel, rfl, by decide +kernel, by decide +kernel⟩
def spCheckWord : Sp := fun vs H Q _ => ∃ (x : Int) (n : Nat), vs = [.int x, .int n] ∧ isW n x = true ∧ Q .non H
theorem ok_checkWord {f g : Addr} {fd fdg : FuncData} (F : Fun K "check_word" "check_word" sCheckWord f fd) (G : Fun K "is_word" "is_word" sIsWord g fdg) (mgG : mg "is_word" = some (.ref g)) (bG : Binds K fdg ["word", "size"] []) :
    FnOk P w K mg base CX0 2 f fd ["word", "size"] spCheckWord := by
  refine F.ok scCheckWord (fun vs H Q E h => ?_) (fun cdv A outer s H vs Q E hr h => ?_)
  · obtain ⟨x, n, rfl, _⟩ := h
    rfl
  · obtain ⟨x, n, rfl, h1, k⟩ := h
    refine ⟨_, pss_one (ps_if (pt_not (pt_val (pe_call (ok_isWord G) hr rfl mgG G.kp bG .nil pass0 (pa_cons (pv 0) (pa_cons (pv 1) pa_nil))))) (pss_one ps_never) pss_nil), ?_⟩
    refine ⟨_, rfl, _, rfl, x, n, rfl, _, rfl, ?_⟩
    rw [h1]
    exact iteF k
theorem scAsc : FnScope ["words", "size", "word"] ["words", "size"] (defScope sAsc) := ⟨rfl, rfl, rfl, by decide +kernel, rfl, by decide +kernel, by decide +kernel⟩
theorem ok_asc {f : Addr} {fd : FuncData} (F : Fun K "ascending" "ascending" sAsc f fd) (B : Bt mg) : FnOk P w K mg base CX0 1 f fd ["words", "size"] (spAsc K) := by
  refine F.ok scAsc (fun vs H Q E h => ?_) (fun cdv A outer s H vs Q E hr h => ?_)
  · obtain ⟨a, ns, n, rfl, _⟩ := h
    rfl
  · obtain ⟨a, ns, n, rfl, hS, hn, k⟩ := h
    refine ⟨_, pss_one (ps_ret (pe_lc (own := [("word", 2)]) (g := gName 2) (tt := tTest (tOp (rIn K false) (tVar 2) (tVar 0))) rfl scAsc.nd (pi_range1 (by rfl) B.range (pa_cons (pv 1) pa_nil)) (blkOk_by (own := [("word", 2)]) (N := ["words", "size", "word"]) (sc := defScope sAsc) (by decide +kernel))
      (fun _ _ _ _ _ => pg_name (i := 2) scAsc.nd rfl (Or.inl rfl)) (fun _ _ _ _ _ => pts_one (pt_cmpR op_in_seq (pv 2) (pv 0) (by rfl)))
      (fun _ _ _ _ _ => pv 2))), ?_⟩
    refine ⟨_, rfl, n, rfl, by omega, by omega, fun D hD => ?_⟩
    refine lc_range (lo := 0) (n := n) (fun i H' => Same H H' ∧ H' D = some (.lst (vI (asc ns i)))) ⟨Same.upd (Same.refl H) hD, upd_same⟩ ?_ ?_
    · rintro i H' hi ⟨s, hd⟩
      refine ⟨rfl, ?_⟩
      refine ⟨_, rfl, _, rfl, a, _, rfl, hS.same s, rfl, flat_vI ns, _, rfl, ?_⟩
      have e0 : (0 : Int) + (i : Int) = (i : Int) := by omega
      rw [e0]
      show if (if false = true then !inV (.int (i : Int)) (vI ns) else inV (.int (i : Int)) (vI ns)) = true then _ else _
      rw [if_neg Bool.false_ne_true, inV_vI, asc_succ]
      by_cases hm : (i : Int) ∈ ns
      · rw [decide_eq_true hm, if_pos hm]
        refine iteT ?_
        refine ⟨_, rfl, _, hd, ?_, ?_, ?_⟩
        · show (vI (asc ns i)).length < sizeLine
          unfold vI
          rw [List.length_map]
          exact Nat.lt_of_le_of_lt (asc_len ns i) (Nat.lt_of_lt_of_le (Nat.lt_of_lt_of_le hi hn) (by decide))
        · exact fun b u e => (ne_of_none e hD) |> fun z => by rw [upd_ne z]; exact s b u e
        · rw [upd_same]
          unfold vI
          rw [List.map_append]
          rfl
      · rw [decide_eq_false hm, if_neg hm]
        exact iteF ⟨s, hd⟩
    · rintro H' ⟨s, hd⟩
      exact k H' D s hD hd
end
end Toy
namespace L2
open PySem PySem.Spec PyProof.Rows
section
variable {J : It} {n : Nat} {G : Hp → Prop} {Y : Nat → Hp → V → Hp → Prop}
/-- the outer loop of [e for a in A for b in B] -/
theorem lc2_out (w : Walk J n G Y) {F : (Hp → Prop) → V → Hp → Prop} {H1 : Hp} {D : Addr} {Qd : Hp → Prop} (Pv : Nat → Hp → Prop) (h0 : Pv 0 (upd H1 D (.lst []))) (hG : ∀ i H, i ≤ n → Pv i H → G H)
    (hs : ∀ i x H H', i < n → Pv i H → Y i H x H' → F (Pv (i + 1)) x H') (hd : ∀ H, Pv n H → Qd H) :
    ∃ W : Nat → Nat → Hp → Prop, (∃ m, W 0 m (upd H1 D (.lst []))) ∧ ∀ i m H, W i m H →
      (J.stop i H ∧ Qd H) ∨ (J.go i H ∧ ∃ Nx : Hp → Prop, (∀ H', Nx H' → ∃ m', m' < m ∧ W (i + 1) m' H') ∧ ∀ x H', J.yld i H x H' → F Nx x H') := by
  refine ⟨fun i m H => m = n - i ∧ i ≤ n ∧ Pv i H, ⟨n, by simp, Nat.zero_le _, h0⟩, ?_⟩
  rintro i m H ⟨rfl, hi, p⟩
  have q := hG i H hi p
  by_cases hlt : i < n
  · exact .inr ⟨w.goes i H hlt q, Pv (i + 1), fun H' p' => ⟨n - (i + 1), by omega, rfl, hlt, p'⟩, fun x H' y => hs i x H H' hlt p (w.yields i H x H' hlt q y)⟩
  · have e : i = n := by omega
    subst e
    exact .inl ⟨w.stops H q, hd H p⟩
/-- the inner one -/
theorem lc2_in (w : Walk J n G Y) {F : (Hp → Prop) → V → Hp → Prop} {H1 : Hp} {Qd : Hp → Prop} (Pv : Nat → Hp → Prop) (h0 : Pv 0 H1) (hG : ∀ i H, i ≤ n → Pv i H → G H)
    (hs : ∀ i x H H', i < n → Pv i H → Y i H x H' → F (Pv (i + 1)) x H') (hd : ∀ H, Pv n H → Qd H) :
    ∃ W : Nat → Nat → Hp → Prop, (∃ m, W 0 m H1) ∧ ∀ i m H, W i m H →
      (J.stop i H ∧ Qd H) ∨ (J.go i H ∧ ∃ Nx : Hp → Prop, (∀ H', Nx H' → ∃ m', m' < m ∧ W (i + 1) m' H') ∧ ∀ x H', J.yld i H x H' → F Nx x H') := by
  refine ⟨fun i m H => m = n - i ∧ i ≤ n ∧ Pv i H, ⟨n, by simp, Nat.zero_le _, h0⟩, ?_⟩
  rintro i m H ⟨rfl, hi, p⟩
  have q := hG i H hi p
  by_cases hlt : i < n
  · exact .inr ⟨w.goes i H hlt q, Pv (i + 1), fun H' p' => ⟨n - (i + 1), by omega, rfl, hlt, p'⟩, fun x H' y => hs i x H H' hlt p (w.yields i H x H' hlt q y)⟩
  · have e : i = n := by omega
    subst e
    exact .inl ⟨w.stops H q, hd H p⟩
theorem walk_enumT {K : PySem.W.Frag} {a : Addr} {xs : List V} : Walk (Itet K a) xs.length (fun H => SqT K H a xs) (YPair (fun i => some (.int (i : Nat))) (fun i => xs[i]?)) := by
  refine ⟨fun i _ hi q => ⟨xs, xs[i], q, by simp [hi]⟩, fun _ q => ⟨xs, q, rfl⟩, fun i H v H' _ q y => ?_⟩
  obtain ⟨T, x, h1, h2, h3, h4⟩ := y
  exact ⟨T, .int (i : Nat), x, h1, h2, h3, rfl, h4 xs q⟩
end
theorem Paired.snoc {α β : Type} {F : α → β → Prop} {x : α} {y : β} (f : F x y) : ∀ {xs : List α} {ys : List β}, Paired F xs ys → Paired F (xs ++ [x]) (ys ++ [y])
  | _, _, .nil => .cons f .nil
  | _, _, .cons r t => .cons r (Paired.snoc f t)
theorem Paired.at {α β : Type} {F : α → β → Prop} : ∀ {xs : List α} {ys : List β} {i : Nat} {x : α}, Paired F xs ys → xs[i]? = some x → ∃ y, ys[i]? = some y ∧ F x y
  | _, _, _, _, .nil, e => by simp at e
  | _, _, 0, _, .cons r _, e => by simp at e; subst e; exact ⟨_, rfl, r⟩
  | _, _, i + 1, x, .cons _ t, e => by
    obtain ⟨u, h1, h2⟩ := Paired.at (i := i) (x := x) t (by simpa using e)
    exact ⟨u, by simpa using h1, h2⟩
theorem Paired.at2 {α β : Type} {F : α → β → Prop} : ∀ {xs : List α} {ys : List β} {i : Nat} {y : β}, Paired F xs ys → ys[i]? = some y → ∃ x, xs[i]? = some x ∧ F x y
  | _, _, _, _, .nil, e => by simp at e
  | _, _, 0, _, .cons r _, e => by simp at e; subst e; exact ⟨_, rfl, r⟩
  | _, _, i + 1, x, .cons _ t, e => by
    obtain ⟨u, h1, h2⟩ := Paired.at2 (i := i) (y := x) t (by simpa using e)
    exact ⟨u, by simpa using h1, h2⟩
theorem PairedIn.map {α β : Type} {F G : α → β → Prop} : ∀ {l₁ : List α} {l₂ : List β}, Paired F l₁ l₂ → (∀ a b, a ∈ l₁ → F a b → G a b) → Paired G l₁ l₂
  | _, _, .nil, _ => .nil
  | _, _, .cons r t, f => .cons (f _ _ List.mem_cons_self r) (PairedIn.map t fun a b h => f a b (List.mem_cons_of_mem _ h))
end L2
namespace Toy
open PySem L2
def prs (k : Nat) : List (List Int) → List (Int × Int)
  | [] => []
  | r :: R => r.map (fun x => ((k : Int), x)) ++ prs (k + 1) R
theorem prs_snoc : ∀ (k : Nat) (A : List (List Int)) (r : List Int), prs k (A ++ [r]) = prs k A ++ r.map fun x => (((k + A.length : Nat) : Int), x)
  | k, [], r => by simp [prs]
  | k, a :: A, r => by
    show a.map _ ++ prs (k + 1) (A ++ [r]) = (a.map _ ++ prs (k + 1) A) ++ _
    rw [prs_snoc (k + 1) A r, List.append_assoc]
    have e : k + 1 + A.length = k + (a :: A).length := by simp; omega
    rw [e]
theorem prs_len : ∀ (k : Nat) (A : List (List Int)), (∀ r ∈ A, r.length ≤ 6) → (prs k A).length ≤ 6 * A.length
  | k, [], _ => by simp [prs]
  | k, a :: A, h => by
    have ih := prs_len (k + 1) A fun r hr => h r (List.mem_cons_of_mem _ hr)
    have := h a List.mem_cons_self
    simp [prs]
    omega
def vP (p : Int × Int) : List V := [.int p.1, .int p.2]
end Toy
namespace Toy
open PySem L2
abbrev RowsT (H : Hp) (ts : List V) (R : List (List Int)) : Prop := Paired (fun v r => ∃ t, v = V.ref t ∧ H t = some (.tup (vI r))) ts R
abbrev RowsL (H : Hp) (ls : List V) (R : List (List Int)) : Prop := Paired (fun v r => ∃ t, v = V.ref t ∧ H t = some (.lst (vI r))) ls R
abbrev PairsT (H : Hp) (qs : List V) (P : List (Int × Int)) : Prop := Paired (fun v p => ∃ t, v = V.ref t ∧ H t = some (.tup (vP p))) qs P
theorem RowsT.same {H H' : Hp} {ts R} (s : Same H H') (h : RowsT H ts R) : RowsT H' ts R := L2.Paired.mapP h fun _ _ ⟨t, e, q⟩ => ⟨t, e, s _ _ q⟩
theorem RowsL.same {H H' : Hp} {ts R} (s : Same H H') (h : RowsL H ts R) : RowsL H' ts R := L2.Paired.mapP h fun _ _ ⟨t, e, q⟩ => ⟨t, e, s _ _ q⟩
theorem PairsT.same {H H' : Hp} {ts R} (s : Same H H') (h : PairsT H ts R) : PairsT H' ts R := L2.Paired.mapP h fun _ _ ⟨t, e, q⟩ => ⟨t, e, s _ _ q⟩
/-- the attributes of a table -/
def tf (n : Nat) (tr tp : Addr) : List (Str × V) := [("size", V.int n), ("_rows", V.ref tr), ("_pairs", V.ref tp)]
theorem sr_ : ¬ (("size" : Str) = "_rows") := by decide +kernel
theorem sp_ : ¬ (("size" : Str) = "_pairs") := by decide +kernel
theorem rp_ : ¬ (("_rows" : Str) = "_pairs") := by decide +kernel
theorem rs_ : ¬ (("_rows" : Str) = "size") := by decide +kernel
theorem ps_' : ¬ (("_pairs" : Str) = "size") := by decide +kernel
theorem pr_ : ¬ (("_pairs" : Str) = "_rows") := by decide +kernel
theorem tf_1 (n : Nat) : putF "size" (.int n) [] = ([("size", V.int n)] : List (Str × V)) := rfl
theorem tf_2 (n : Nat) (tr : Addr) : putF "_rows" (.ref tr) ([("size", V.int n)] : List (Str × V)) = ([("size", V.int n), ("_rows", V.ref tr)] : List (Str × V)) := by
  show (if ("size" : Str) = "_rows" then [(("size" : Str), V.ref tr)] else (("size" : Str), V.int n) :: putF "_rows" (V.ref tr) []) = ([("size", V.int n), ("_rows", V.ref tr)] : List (Str × V))
  rw [if_neg sr_]
  rfl
theorem tf_3 (n : Nat) (tr tp : Addr) : putF "_pairs" (.ref tp) ([("size", V.int n), ("_rows", V.ref tr)] : List (Str × V)) = tf n tr tp := by
  show (if ("size" : Str) = "_pairs" then _ else (("size" : Str), V.int n) :: (if ("_rows" : Str) = "_pairs" then _ else (("_rows" : Str), V.ref tr) :: putF "_pairs" (V.ref tp) [])) = tf n tr tp
  rw [if_neg sp_, if_neg rp_]
  rfl
theorem tf_size (n : Nat) (tr tp : Addr) : (tf n tr tp).lookup ("size" : Str) = some (.int n) := by simp [tf, List.lookup]
theorem tf_rows (n : Nat) (tr tp : Addr) : (tf n tr tp).lookup ("_rows" : Str) = some (.ref tr) := by
  have h : (("_rows" : Str) == "size") = false := by simpa using rs_
  simp [tf, List.lookup, h]
theorem tf_pairs (n : Nat) (tr tp : Addr) : (tf n tr tp).lookup ("_pairs" : Str) = some (.ref tp) := by
  have h : (("_pairs" : Str) == "size") = false := by simpa using ps_'
  have h2 : (("_pairs" : Str) == "_rows") = false := by simpa using pr_
  simp [tf, List.lookup, h, h2]
theorem tf_no (n : Nat) (tr tp : Addr) {m : Str} (h1 : (m == "size") = false) (h2 : (m == "_rows") = false) (h3 : (m == "_pairs") = false) : (tf n tr tp).lookup m = none := by
  simp [tf, List.lookup, h1, h2, h3]
theorem RowsT.updL {H : Hp} {D : Addr} {xs ys : List V} {ts R} (h : RowsT H ts R) (hd : H D = some (.lst xs)) : RowsT (upd H D (.lst ys)) ts R :=
  L2.Paired.mapP h fun _ _ ⟨t, e, q⟩ => ⟨t, e, by rw [upd_ne (ne_of q hd (fun z => nomatch z))]; exact q⟩
theorem PairsT.updL {H : Hp} {D : Addr} {xs ys : List V} {ts R} (h : PairsT H ts R) (hd : H D = some (.lst xs)) : PairsT (upd H D (.lst ys)) ts R :=
  L2.Paired.mapP h fun _ _ ⟨t, e, q⟩ => ⟨t, e, by rw [upd_ne (ne_of q hd (fun z => nomatch z))]; exact q⟩
theorem Same.updN {H H' : Hp} {D : Addr} {o : HO} (s : Same H H') (hD : H D = none) : Same H (L2.upd H' D o) := fun b u e => by
  rw [upd_ne (ne_of_none e hD)]
  exact s b u e
theorem Same.new {H : Hp} {D : Addr} {o : HO} (hD : H D = none) : Same H (L2.upd H D o) := Same.updN (Same.refl H) hD
theorem vI_len (ns : List Int) : (vI ns).length = ns.length := List.length_map ..
/-- a table stands at p, its rows R -/
def Tab (C : Addr) (H : Hp) (p : Addr) (R : List (List Int)) : Prop :=
  ∃ (dx tr tp : Addr) (ts qs : List V), H p = some (.ins C dx (tf R.length tr tp)) ∧ H dx = some (.own p) ∧ H tr = some (.tup ts) ∧ RowsT H ts R ∧ H tp = some (.tup qs) ∧ PairsT H qs (prs 0 R) ∧
    1 ≤ R.length ∧ R.length ≤ 6 ∧ ∀ r ∈ R, r.length ≤ 6
theorem Tab.same {C : Addr} {H H' : Hp} {p : Addr} {R} (s : Same H H') (h : Tab C H p R) : Tab C H' p R := by
  obtain ⟨dx, tr, tp, ts, qs, h1, h2, h3, h4, h5, h6, h7⟩ := h
  exact ⟨dx, tr, tp, ts, qs, s _ _ h1, s _ _ h2, s _ _ h3, RowsT.same s h4, s _ _ h5, PairsT.same s h6, h7⟩
abbrev sTable : Stmt := top 16
abbrev sInit : Stmt := inClass sTable 1
/-- the given rows: each a list of words -/
def spInit (K : PySem.W.Frag) (C : Addr) : Sp := fun vs H Q _ => ∃ (p dx l : Addr) (ls : List V) (G : List (List Int)), vs = [.ref p, .ref l] ∧ H p = some (.ins C dx []) ∧ H dx = some (.own p) ∧ H l = some (.lst ls) ∧ RowsL H ls G ∧
  1 ≤ G.length ∧ G.length ≤ 6 ∧ (∀ g ∈ G, g.length < sizeLine ∧ g.all (isW G.length) = true) ∧
  ∀ H', (∀ b o, b ≠ p → H b = some o → H' b = some o) → Tab C H' p (G.map fun g => asc g G.length) → Q .non H'
section
variable {P : Program} {w : World} {K : PySem.W.Frag} {mg : Str → Option Value} {base : Heap}
structure Gs (K : PySem.W.Frag) (mg : Str → Option Value) (C : Addr) : Prop where
  B : Bt mg
  T : CT K mg C
  isW_ : ∃ f fd, Fun K "is_word" "is_word" sIsWord f fd ∧ mg "is_word" = some (.ref f) ∧ Binds K fd ["word", "size"] []
  allW : ∃ f fd, Fun K "all_words" "all_words" sAllWords f fd ∧ mg "all_words" = some (.ref f) ∧ Binds K fd ["words", "size"] []
  isS : ∃ f fd, Fun K "is_size" "is_size" sIsSize f fd ∧ mg "is_size" = some (.ref f) ∧ Binds K fd ["size"] []
  chS : ∃ f fd, Fun K "check_size" "check_size" sCheckSize f fd ∧ mg "check_size" = some (.ref f) ∧ Binds K fd ["size"] []
  chW : ∃ f fd, Fun K "check_word" "check_word" sCheckWord f fd ∧ mg "check_word" = some (.ref f) ∧ Binds K fd ["word", "size"] []
  asc : ∃ f fd, Fun K "ascending" "ascending" sAsc f fd ∧ mg "ascending" = some (.ref f) ∧ Binds K fd ["words", "size"] []
theorem scInit : FnScope ["self", "rows", "size", "index", "row", "told", "out"] ["self", "rows"] (defScope sInit) := ⟨rfl, rfl, rfl, by decide +kernel, rfl, by decide +kernel, by decide +kernel⟩
theorem ok_init {f C : Addr} {fd : FuncData} (F : Fun K "__init__" "Table.__init__" sInit f fd) (S : Gs K mg C) : FnOk P w K mg base CX0 3 f fd ["self", "rows"] (spInit K C) := by
  obtain ⟨fW, fdW, FW, mW, bW⟩ := S.isW_
  obtain ⟨fA, fdA, FA, mA, bA⟩ := S.allW
  obtain ⟨fI, fdI, FI, mI, bI⟩ := S.isS
  obtain ⟨fC, fdC, FC, mC, bC⟩ := S.chS
  obtain ⟨fS, fdS, FS, mS, bS⟩ := S.asc
  refine F.ok scInit (fun vs H Q E h => ?_) (fun cdv A outer s H vs Q E hr h => ?_)
  · obtain ⟨p, dx, l, ls, G, rfl, _⟩ := h
    rfl
  · obtain ⟨p, dx, l, ls, G, rfl, hp, hdx, hl, hR, g1, g6, gG, k⟩ := h
    have hr1 : Room 1 _ := hr.mono (by decide)
    refine ⟨_, pss_cons (ps_set (i := 2) scInit.nd rfl (Or.inr rfl) (pe_callB call_len_seq (by rfl) S.B.len PySem.boot_len (pa_cons (pv 1) pa_nil)))
      (pss_cons (ps_expr (pe_call (ok_checkSize FC S.T FI mI bI) hr rfl mC FC.kp bC .nil pass0 (pa_cons (pv 2) pa_nil)))
      (pss_cons (ps_for PassesOwn.never rfl (pi_enum (by rfl) S.B.enumerate (pa_cons (pv 1) pa_nil)) (pg_tup (by rfl) (pgs_cons (pg_name (i := 3) scInit.nd rfl (Or.inl rfl)) (pgs_cons (pg_name (i := 4) scInit.nd rfl (Or.inl rfl)) pgs_nil)))
        (pss_one (ps_if (pt_not (pt_val (pe_call (ok_allWords FA S.B FW mW bW) hr rfl mA FA.kp bA .nil pass0 (pa_cons (pv 4) (pa_cons (pv 2) pa_nil))))) (pss_one ps_never) pss_nil)))
      (pss_cons (ps_fld (pv 0) (pv 2) rfl)
      (pss_cons (ps_fld (pv 0) (pe_callTy call_tuple_of (by rfl) S.B.tuple (by decide +kernel) (pa_cons
        (pe_lc (own := [("row", 4)]) (g := gName 4) (tt := tYes) rfl scInit.nd (pi_list (pv 1)) (blkOk_by (own := [("row", 4)]) (N := ["self", "rows", "size", "index", "row", "told", "out"]) (sc := defScope sInit) (by decide +kernel))
          (fun _ _ _ _ _ => pg_name (i := 4) scInit.nd rfl (Or.inl rfl)) (fun _ _ _ _ _ => pts_nil)
          (te := tCB (fun xs H Q => ∃ p ys, xs = [.ref p] ∧ ((SqL K H p ys ∧ ∀ l, H l = none → Q (.ref l) (upd H l (.tup ys))) ∨ (SqT K H p ys ∧ Q (.ref p) H))) (tCons (tCall (spAsc K) [] E0 (tCons (tVar 4) (tCons (tVar 2) tNil))) tNil))
          (fun _ _ _ _ _ => pe_callTy call_tuple_of (by rfl) S.B.tuple (by decide +kernel) (pa_cons (pe_call (ok_asc FS S.B) hr1 rfl mS FS.kp bS .nil pass0 (pa_cons (pv 4) (pa_cons (pv 2) pa_nil))) pa_nil))) pa_nil)) rfl)
      (pss_one (ps_fld (pv 0) (pe_callTy call_tuple_of (by rfl) S.B.tuple (by decide +kernel) (pa_cons
        (pe_lc2 (own := [("told", 5), ("row", 4), ("out", 6)]) (vs1 := [6]) (tt := tYes) (tt1 := tYes) (g := gTup K 2 (gCons (gName 5) (gCons (gName 4) gNil))) (g1 := gName 6) (wi1 := iTup K (tVar 4)) rfl scInit.nd (pi_enumT (by rfl) S.B.enumerate (pa_cons (pe_fld (pv 0) rfl) pa_nil))
          (blkOk_by (own := [("told", 5), ("row", 4), ("out", 6)]) (N := ["self", "rows", "size", "index", "row", "told", "out"]) (sc := defScope sInit) (by decide +kernel)) (by decide)
          (fun _ _ _ _ _ => pg_tup (by rfl) (pgs_cons (pg_name (i := 5) scInit.nd rfl (Or.inl rfl)) (pgs_cons (pg_name (i := 4) scInit.nd rfl (Or.inl rfl)) pgs_nil))) (fun _ _ _ _ _ => pts_nil)
          (fun _ _ _ _ _ => pi_tup (pv 4)) (fun _ _ _ _ _ => pg_name (i := 6) scInit.nd rfl (Or.inl rfl)) (fun _ _ _ _ _ => pts_nil)
          (fun _ _ _ _ _ => pe_tup (pa_cons (pv 5) (pa_cons (pv 6) pa_nil)))) pa_nil)) rfl)))))), ?_⟩
    have el : ls.length = G.length := Paired.length hR
    rw [← el] at g1 g6 gG k
    refine ⟨_, rfl, l, ls, rfl, .inl (SqL.of hl), ?_⟩
    refine ⟨_, rfl, (ls.length : Int), rfl, by omega, by omega, ?_⟩
    refine ⟨_, rfl, l, ls, rfl, SqL.of hl, ?_⟩
    refine for_it (walk_enum (K := K) (a := l) (xs := ls)) (fun i σ H' => ∃ v3 v4, σ = [some (.ref p), some (.ref l), some (.int (ls.length : Int)), v3, v4, none, none] ∧ Same H H') ⟨none, none, rfl, Same.refl H⟩ (fun i σ H' _ ⟨_, _, _, s⟩ => SqL.of (s _ _ hl)) ?_ ?_
    · rintro i x σ H1 H2 hi ⟨v3, v4, rfl, s1⟩ ⟨T, a, b, rfl, hT, rfl, ha, hb⟩
      cases (Option.some.inj ha)
      obtain ⟨g, hg, t, rfl, ht⟩ := L2.Paired.at (RowsL.same s1 hR) hb
      have s2 : Same H (upd H1 T (.tup [.int (i : Nat), .ref t])) := Same.upd s1 hT
      refine ⟨T, _, rfl, SqT.of upd_same, rfl, _, _, rfl, _, _, rfl, rfl, ?_⟩
      have tT : t ≠ T := ne_of_none ht hT
      obtain ⟨gl, ga⟩ := gG g (List.mem_of_getElem? hg)
      refine ⟨_, rfl, _, rfl, t, g, ls.length, rfl, SqL.of (by rw [upd_ne tT]; exact ht), gl, fun H3 s3 => ⟨_, rfl, ?_⟩⟩
      rw [ga]
      exact iteF ⟨_, _, rfl, s2.trans s3⟩
    · rintro σ H1 ⟨v3, v4, rfl, s1⟩
      have hp1 := s1 _ _ hp
      have hdx1 := s1 _ _ hdx
      -- self.size = size
      refine ⟨_, rfl, _, rfl, p, C, dx, [], rfl, hp1, S.T.cl, S.T.nS, (by show 0 < 1000; decide), ?_⟩
      rw [tf_1]
      generalize hHa : upd H1 p (.ins C dx [(("size" : Str), V.int (ls.length : Int))]) = Ha
      have kA : ∀ b o, b ≠ p → H b = some o → Ha b = some o := fun b o ne e => by rw [← hHa, upd_ne ne]; exact s1 _ _ e
      have pA : Ha p = some (.ins C dx [(("size" : Str), V.int (ls.length : Int))]) := by rw [← hHa, upd_same]
      have npl : l ≠ p := ne_of hl hp (fun z => nomatch z)
      have npd : dx ≠ p := ne_of hdx hp (fun z => nomatch z)
      have lA := kA _ _ npl hl
      have RA : RowsL Ha ls G := L2.Paired.mapP hR fun _ _ ⟨t, e, q⟩ => ⟨t, e, kA _ _ (ne_of q hp (fun z => nomatch z)) q⟩
      -- self._rows = tuple([tuple(ascending(row, size)) for row in rows])
      refine ⟨_, rfl, l, rfl, ⟨_, SqL.of lA⟩, fun D hD => ?_⟩
      refine lc_list (K := K) (a := l) (xs := ls) (fun i H' => Same Ha H' ∧ ∃ ts, H' D = some (.lst ts) ∧ RowsT H' ts ((G.take i).map fun g => Toy.asc g ls.length)) ⟨Same.new hD, [], upd_same, .nil⟩ (fun i H' _ ⟨s, _⟩ => SqL.of (s _ _ lA)) ?_ ?_
      · rintro i y H2 hi ⟨s2, ts, hd2, R2⟩
        obtain ⟨g, hg, t, rfl, ht⟩ := L2.Paired.at (RowsL.same s2 RA) hi
        refine ⟨rfl, yesT (iteT ?_)⟩
        refine ⟨_, rfl, _, rfl, t, g, ls.length, rfl, .inl (SqL.of ht), g6, fun H3 q s3 hq0 hq => ?_⟩
        refine ⟨q, _, rfl, .inl ⟨SqL.of hq, fun u hu => ?_⟩⟩
        have hd3 := s3 _ _ hd2
        have nDu : D ≠ u := ne_of_none hd3 hu
        have hd4 : upd H3 u (.tup (vI (Toy.asc g ls.length))) D = some (.lst ts) := by rw [upd_ne nDu]; exact hd3
        refine ⟨ts, hd4, ?_, ?_, ts ++ [.ref u], upd_same, ?_⟩
        · rw [Paired.length R2, List.length_map]
          refine Nat.lt_of_le_of_lt (List.length_take_le' _ _) (Nat.lt_of_le_of_lt (?_ : _ ≤ 6) (by decide))
          omega
        · exact Same.updN (Same.upd (s2.trans s3) hu) hD
        · rw [take_more hg, List.map_append]
          refine L2.Paired.snoc ⟨u, rfl, by rw [upd_ne nDu.symm, upd_same]⟩ ?_
          exact RowsT.updL (RowsT.same ((s3).trans (Same.new hu)) R2) hd4
      · rintro H2 ⟨s2, ts, hd2, R2⟩
        rw [el, List.take_length] at R2
        refine ⟨D, ts, rfl, .inl ⟨SqL.of hd2, fun tr htr => ?_⟩⟩
        have sC : Same Ha (upd H2 tr (.tup ts)) := Same.upd s2 htr
        have R3 : RowsT (upd H2 tr (.tup ts)) ts (G.map fun g => Toy.asc g G.length) := RowsT.same (Same.new htr) R2
        have t3 : (upd H2 tr (.tup ts)) tr = some (.tup ts) := upd_same
        generalize (upd H2 tr (.tup ts)) = Hc at sC R3 t3
        refine ⟨_, rfl, p, C, dx, _, rfl, sC _ _ pA, S.T.cl, S.T.nR, (by show 1 < 1000; decide), ?_⟩
        rw [tf_2]
        rw [el] at k g6 g1
        rw [el] at *
        have kC : ∀ b o, b ≠ p → H b = some o → Hc b = some o := fun b o ne e => sC _ _ (kA b o ne e)
        have pC : ∀ b o, b ≠ p → Hc b = some o → upd Hc p (.ins C dx [(("size" : Str), V.int (G.length : Int)), (("_rows" : Str), V.ref tr)]) b = some o := fun b o ne e => by rw [upd_ne ne]; exact e
        have p0 := sC _ _ pA
        have R4 : RowsT (upd Hc p (.ins C dx [(("size" : Str), V.int (G.length : Int)), (("_rows" : Str), V.ref tr)])) ts (G.map fun g => Toy.asc g G.length) :=
          L2.Paired.mapP R3 fun _ _ ⟨t, e, q⟩ => ⟨t, e, pC _ _ (ne_of q p0 (fun z => nomatch z)) q⟩
        have t4 := pC _ _ (ne_of t3 p0 (fun z => nomatch z)) t3
        have kD : ∀ b o, b ≠ p → H b = some o → upd Hc p (.ins C dx [(("size" : Str), V.int (G.length : Int)), (("_rows" : Str), V.ref tr)]) b = some o := fun b o ne e => pC _ _ ne (kC _ _ ne e)
        have pD : upd Hc p (.ins C dx [(("size" : Str), V.int (G.length : Int)), (("_rows" : Str), V.ref tr)]) p = some (.ins C dx [(("size" : Str), V.int (G.length : Int)), (("_rows" : Str), V.ref tr)]) := upd_same
        generalize upd Hc p (.ins C dx [(("size" : Str), V.int (G.length : Int)), (("_rows" : Str), V.ref tr)]) = Hd at R4 t4 kD pD
        have lkR : List.lookup ("_rows" : Str) ([(("size" : Str), V.int (G.length : Int)), (("_rows" : Str), V.ref tr)] : List (Str × V)) = some (.ref tr) := by
          have h : (("_rows" : Str) == "size") = false := by simpa using rs_
          simp [List.lookup, h]
        -- self._pairs = ..
        have lR : (G.map fun g => Toy.asc g G.length).length = G.length := List.length_map ..
        have r6 : ∀ r ∈ (G.map fun g => Toy.asc g G.length), r.length ≤ 6 := fun r hr => by
          obtain ⟨g, _, rfl⟩ := List.mem_map.mp hr
          exact Nat.le_trans (asc_len _ _) g6
        generalize (G.map fun g => Toy.asc g G.length) = R at k R4 lR r6
        have lts : ts.length = R.length := Paired.length R4
        refine ⟨_, rfl, p, C, dx, _, _, rfl, pD, S.T.cl, S.T.nR, lkR, tr, ts, rfl, SqT.of t4, fun D2 hD2 => ?_⟩
        have nP6 : ∀ i, (prs 0 (R.take i)).length ≤ 36 := fun i => by
          have h1 := prs_len 0 (R.take i) fun r hr => r6 r (List.mem_of_mem_take hr)
          have h2 : (R.take i).length ≤ R.length := List.length_take_le' _ _
          omega
        refine lc2_out (walk_enumT (K := K) (a := tr) (xs := ts)) (fun i H' => Same Hd H' ∧ ∃ qs, H' D2 = some (.lst qs) ∧ PairsT H' qs (prs 0 (R.take i))) ⟨Same.new hD2, [], upd_same, .nil⟩ (fun i H' _ ⟨s, _⟩ => SqT.of (s _ _ t4)) ?_ ?_
        · rintro i x H4 H5 hi ⟨s5, qs, hq, hP⟩ ⟨T, a, b, rfl, hT, rfl, ha, hb⟩
          cases (Option.some.inj ha)
          obtain ⟨r, hr0, t, rfl, ht⟩ := L2.Paired.at (RowsT.same s5 R4) hb
          have r6' := r6 r (List.mem_of_getElem? hr0)
          have nDT : D2 ≠ T := ne_of_none hq hT
          have s6 := Same.new (H := H4) (o := .tup [.int (i : Nat), .ref t]) hT
          refine ⟨T, _, rfl, SqT.of upd_same, rfl, _, _, rfl, _, _, rfl, rfl, ?_⟩
          refine ⟨rfl, yesT (iteT ?_)⟩
          refine ⟨_, rfl, t, rfl, ⟨_, SqT.of (s6 _ _ ht)⟩, ?_⟩
          refine lc2_in (walk_tup (K := K) (a := t) (xs := vI r)) (fun j H' => Same Hd H' ∧ H' t = some (.tup (vI r)) ∧ ∃ qs, H' D2 = some (.lst qs) ∧ PairsT H' qs (prs 0 (R.take i) ++ (r.take j).map fun x => ((i : Int), x))) ?_ (fun j H' _ ⟨_, h, _⟩ => SqT.of h) ?_ ?_
          · refine ⟨s5.trans s6, s6 _ _ ht, qs, s6 _ _ hq, ?_⟩
            rw [List.take_zero, List.map_nil, List.append_nil]
            exact PairsT.same s6 hP
          · rintro j x H6 H7 hj ⟨s7, ht7, qs7, hq7, hP7⟩ ⟨rfl, hx⟩
            obtain ⟨y, hy, rfl⟩ := vI_at hx
            refine ⟨rfl, yesT (iteT ?_)⟩
            refine ⟨_, rfl, _, rfl, (by show 2 ≤ sizeLine; decide), fun u hu => ?_⟩
            have nDu : D2 ≠ u := ne_of_none hq7 hu
            have s8 := Same.new (H := H7) (o := .tup [.int (i : Int), .int y]) hu
            have hq8 := s8 _ _ hq7
            have ntD : t ≠ D2 := ne_of ht7 hq7 (fun z => nomatch z)
            refine ⟨qs7, hq8, ?_, Same.updN (s7.trans s8) hD2, by rw [upd_ne ntD]; exact s8 _ _ ht7, qs7 ++ [.ref u], upd_same, ?_⟩
            · rw [Paired.length hP7, List.length_append, List.length_map]
              have h1 := nP6 i
              have h2 : (r.take j).length ≤ r.length := List.length_take_le' _ _
              exact Nat.lt_of_le_of_lt (by omega : _ ≤ 42) (by decide)
            · rw [take_more hy, List.map_append, ← List.append_assoc]
              refine L2.Paired.snoc ⟨u, rfl, by rw [upd_ne nDu.symm]; exact upd_same⟩ ?_
              exact PairsT.updL (PairsT.same s8 hP7) hq8
          · rintro H6 ⟨s7, ht7, qs7, hq7, hP7⟩
            rw [vI_len, List.take_length] at hP7
            refine ⟨s7, qs7, hq7, ?_⟩
            rw [take_more hr0, prs_snoc]
            have e : (R.take i).length = i := by rw [List.length_take]; have := (List.getElem?_eq_some_iff.mp hr0).1; omega
            rw [e, Nat.zero_add]
            exact hP7
        · rintro H6 ⟨s7, qs, hq, hP⟩
          rw [lts, List.take_length] at hP
          refine ⟨D2, qs, rfl, .inl ⟨SqL.of hq, fun tp htp => ?_⟩⟩
          have sE : Same Hd (upd H6 tp (.tup qs)) := Same.upd s7 htp
          have P3 := PairsT.same (Same.new (H := H6) (o := .tup qs) htp) hP
          have t5 : (upd H6 tp (.tup qs)) tp = some (.tup qs) := upd_same
          generalize (upd H6 tp (.tup qs)) = He at sE P3 t5
          refine ⟨_, rfl, p, C, dx, _, rfl, sE _ _ pD, S.T.cl, S.T.nP, (by show 2 < 1000; decide), ?_⟩
          rw [tf_3]
          have p9 := sE _ _ pD
          refine k _ (fun b o ne e => by rw [upd_ne ne]; exact sE _ _ (kD _ _ ne e)) ⟨dx, tr, tp, ts, qs, by rw [upd_same, lR], ?_, ?_, ?_, ?_, ?_, by omega, by omega, r6⟩
          · rw [upd_ne npd]; exact sE _ _ (kD _ _ npd hdx)
          · rw [upd_ne (ne_of (sE _ _ t4) p9 (fun z => nomatch z))]; exact sE _ _ t4
          · exact L2.Paired.mapP (RowsT.same sE R4) fun _ _ ⟨t, e, q⟩ => ⟨t, e, by rw [upd_ne (ne_of q p9 (fun z => nomatch z))]; exact q⟩
          · rw [upd_ne (ne_of t5 p9 (fun z => nomatch z))]; exact t5
          · exact L2.Paired.mapP P3 fun _ _ ⟨t, e, q⟩ => ⟨t, e, by rw [upd_ne (ne_of q p9 (fun z => nomatch z))]; exact q⟩
end
end Toy
namespace Toy
open PySem L2
abbrev sRows : Stmt := inClass sTable 6
abbrev sGetitem : Stmt := inClass sTable 15
/-- new lists -/
abbrev RowsN (H0 H : Hp) (ls : List V) (R : List (List Int)) : Prop := Paired (fun v r => ∃ t, v = V.ref t ∧ H t = some (.lst (vI r)) ∧ H0 t = none) ls R
def spRows (C : Addr) : Sp := fun vs H Q _ => ∃ (p : Addr) (R : List (List Int)), vs = [.ref p] ∧ Tab C H p R ∧ ∀ H' l ls, Same H H' → H l = none → H' l = some (.lst ls) → RowsN H H' ls R → Q (.ref l) H'
def spGetitem (C : Addr) : Sp := fun vs H Q _ => ∃ (p : Addr) (R : List (List Int)) (x : Nat) (r : List Int), vs = [.ref p, .int x] ∧ Tab C H p R ∧ R[x]? = some r ∧ ∀ H' l, Same H H' → H l = none → H' l = some (.lst (vI r)) → Q (.ref l) H'
section
variable {P : Program} {w : World} {K : PySem.W.Frag} {mg : Str → Option Value} {base : Heap}
theorem scRows : FnScope ["self", "row"] ["self"] (defScope sRows) := ⟨rfl, rfl, rfl, by decide +kernel, rfl, by decide +kernel, by decide +kernel⟩
theorem ok_rows {f C : Addr} {fd : FuncData} (F : Fun K "rows" "Table.rows" sRows f fd) (S : Gs K mg C) : FnOk P w K mg base CX0 1 f fd ["self"] (spRows C) := by
  refine F.ok scRows (fun vs H Q E h => ?_) (fun cdv A outer s H vs Q E hr h => ?_)
  · obtain ⟨p, R, rfl, _⟩ := h
    rfl
  · obtain ⟨p, R, rfl, hT, k⟩ := h
    obtain ⟨dx, tr, tp, ts, qs, h1, h2, h3, h4, h5, h6, h7, h8, h9⟩ := id hT
    refine ⟨_, pss_one (ps_ret (pe_lc (own := [("row", 1)]) (g := gName 1) (tt := tYes) rfl scRows.nd (pi_tup (pe_fld (pv 0) rfl)) (blkOk_by (own := [("row", 1)]) (N := ["self", "row"]) (sc := defScope sRows) (by decide +kernel))
          (fun _ _ _ _ _ => pg_name (i := 1) scRows.nd rfl (Or.inl rfl)) (fun _ _ _ _ _ => pts_nil)
          (te := tCB (fun xs H Q => ∃ p ys, xs = [.ref p] ∧ (SqL K H p ys ∨ SqT K H p ys) ∧ ∀ l, H l = none → Q (.ref l) (upd H l (.lst ys))) (tCons (tVar 1) tNil))
          (fun _ _ _ _ _ => pe_callTy call_list_of (by rfl) S.B.list (by decide +kernel) (pa_cons (pv 1) pa_nil)))), ?_⟩
    refine ⟨_, rfl, p, C, dx, _, _, rfl, h1, S.T.cl, S.T.nR, tf_rows _ _ _, ?_⟩
    refine ⟨tr, rfl, ⟨_, SqT.of h3⟩, fun D hD => ?_⟩
    refine lc_tup (K := K) (a := tr) (xs := ts) (fun i H' => Same H H' ∧ ∃ ls, H' D = some (.lst ls) ∧ RowsN H H' ls (R.take i) ∧ ∀ v ∈ ls, v ≠ .ref D) ⟨Same.new hD, [], upd_same, .nil, fun _ h => nomatch h⟩ (fun i H' _ ⟨s, _⟩ => SqT.of (s _ _ h3)) ?_ ?_
    · rintro i y H2 hi ⟨s2, ls, hd2, R2, nD⟩
      obtain ⟨r, hr0, t, rfl, ht⟩ := L2.Paired.at (RowsT.same s2 h4) hi
      refine ⟨rfl, yesT (iteT ?_)⟩
      refine ⟨_, rfl, t, _, rfl, .inr (SqT.of ht), fun u hu => ?_⟩
      have nDu : D ≠ u := ne_of_none hd2 hu
      have s3 := Same.new (H := H2) (o := .lst (vI r)) hu
      refine ⟨ls, s3 _ _ hd2, ?_, Same.updN (s2.trans s3) hD, ls ++ [.ref u], upd_same, ?_, ?_⟩
      · rw [Paired.length R2]
        exact Nat.lt_of_le_of_lt (List.length_take_le' _ _) (Nat.lt_of_le_of_lt h8 (by decide))
      · rw [take_more hr0]
        refine L2.Paired.snoc ⟨u, rfl, by rw [upd_ne nDu.symm]; exact upd_same, s2.free hu⟩ ?_
        refine PairedIn.map R2 fun v r' hv ⟨t', e, q, z⟩ => ⟨t', e, ?_, z⟩
        have nt : t' ≠ D := fun z => nD v hv (by rw [e, z])
        rw [upd_ne nt]
        exact s3 _ _ q
      · intro v hv
        rcases List.mem_append.mp hv with hv | hv
        · exact nD v hv
        · rw [List.mem_singleton.mp hv]
          exact fun z => nDu (V.ref.inj z).symm
    · rintro H2 ⟨s2, ls, hd2, R2, _⟩
      rw [Paired.length h4, List.take_length] at R2
      exact k H2 D ls s2 hD hd2 R2
theorem scGetitem : FnScope ["self", "word"] ["self", "word"] (defScope sGetitem) := ⟨rfl, rfl, rfl, by decide +kernel, rfl, by decide +kernel, by decide +kernel⟩
theorem ok_getitem {f C : Addr} {fd : FuncData} (F : Fun K "__getitem__" "Table.__getitem__" sGetitem f fd) (S : Gs K mg C) : FnOk P w K mg base CX0 3 f fd ["self", "word"] (spGetitem C) := by
  obtain ⟨fW, fdW, FW, mW, bW⟩ := S.isW_
  obtain ⟨fC, fdC, FC, mC, bC⟩ := S.chW
  refine F.ok scGetitem (fun vs H Q E h => ?_) (fun cdv A outer s H vs Q E hr h => ?_)
  · obtain ⟨p, R, x, r, rfl, _⟩ := h
    rfl
  · obtain ⟨p, R, x, r, rfl, hT, hx, k⟩ := h
    obtain ⟨dx, tr, tp, ts, qs, h1, h2, h3, h4, h5, h6, h7, h8, h9⟩ := id hT
    obtain ⟨v, hv, t, rfl, ht⟩ := L2.Paired.at2 h4 hx
    refine ⟨_, pss_cons (ps_expr (pe_call (ok_checkWord FC FW mW bW) hr rfl mC FC.kp bC .nil pass0 (pa_cons (pv 1) (pa_cons (pe_fld (pv 0) rfl) pa_nil))))
      (pss_one (ps_ret (pe_callTy call_list_of (by rfl) S.B.list (by decide +kernel) (pa_cons (pe_ix ix_tup (pe_fld (pv 0) rfl) (pv 1) (fun _ _ => rfl)) pa_nil)))), ?_⟩
    have hxl : x < R.length := (List.getElem?_eq_some_iff.mp hx).1
    have hw : isW R.length (x : Int) = true := by unfold isW; rw [decide_eq_true (by omega : (0 : Int) ≤ x), decide_eq_true (by omega : (x : Int) < R.length)]; rfl
    refine ⟨_, rfl, _, rfl, p, C, dx, _, _, rfl, h1, S.T.cl, S.T.nS, tf_size _ _ _, (x : Int), R.length, rfl, hw, ?_⟩
    refine ⟨_, rfl, p, C, dx, _, _, rfl, h1, S.T.cl, S.T.nR, tf_rows _ _ _, _, rfl, tr, ts, x, _, rfl, rfl, SqT.of h3, atI_nat hv, ?_⟩
    refine ⟨t, _, rfl, .inr (SqT.of ht), fun l hl => ?_⟩
    exact k _ l (Same.new hl) hl upd_same
end
end Toy
namespace Toy
open PySem L2
/-! ### the box -/
def off (b : Addr) (H : Hp) : Hp := fun a => if a = b then none else H a
theorem off_ne {b a : Addr} {H : Hp} (h : a ≠ b) : off b H a = H a := by unfold off; rw [if_neg h]
theorem off_at {b : Addr} {H : Hp} : off b H b = none := by unfold off; rw [if_pos rfl]
theorem off_le {b : Addr} {H : Hp} : Same (off b H) H := fun a o e => by
  by_cases h : a = b
  · rw [h, off_at] at e
    cases e
  · rw [off_ne h] at e
    exact e
theorem off_ne_of {b a : Addr} {H : Hp} {o : HO} (e : off b H a = some o) : a ≠ b := fun z => by
  rw [z, off_at] at e
  cases e
theorem off_upd {b : Addr} {H : Hp} {o : HO} : off b (upd H b o) = off b H := by
  funext a
  by_cases h : a = b
  · rw [h, off_at, off_at]
  · rw [off_ne h, off_ne h, upd_ne h]
theorem off_updN {b p : Addr} {H : Hp} {o : HO} (h : p ≠ b) : off b (upd H p o) = upd (off b H) p o := by
  funext a
  by_cases h1 : a = b
  · rw [h1, off_at, upd_ne (Ne.symm h), off_at]
  · rw [off_ne h1]
    by_cases h2 : a = p
    · rw [h2, upd_same, upd_same]
    · rw [upd_ne h2, upd_ne h2, off_ne h1]
theorem Same.off {b : Addr} {H H' : Hp} (s : Same H H') : Same (Toy.off b H) (Toy.off b H') := fun a o e => by
  have n := off_ne_of e
  rw [off_ne n] at e ⊢
  exact s _ _ e
def BoxAt (H : Hp) (b c : Addr) : Prop := ∃ (cs : List Int) (i pend st : Int), H b = some (.lst [.ref c, .int i, .int pend, .int st]) ∧ H c = some (.lst (vI cs)) ∧ c ≠ b ∧ 0 ≤ i ∧ 0 ≤ pend ∧ 0 ≤ st ∧ st < 2147483647 ∧ ∀ x ∈ cs, 0 ≤ x
theorem BoxAt.same {H H' : Hp} {b c : Addr} (s : Same H H') (h : BoxAt H b c) : BoxAt H' b c := by
  obtain ⟨cs, i, p, st, h1, h2, h3⟩ := h
  exact ⟨cs, i, p, st, s _ _ h1, s _ _ h2, h3⟩
theorem BoxAt.upd {H : Hp} {b c l : Addr} {o : HO} (h : BoxAt H b c) (n : l ≠ b) (n' : l ≠ c) : BoxAt (L2.upd H l o) b c := by
  obtain ⟨cs, i, p, st, h1, h2, h3⟩ := h
  exact ⟨cs, i, p, st, by rw [upd_ne (Ne.symm n)]; exact h1, by rw [upd_ne (Ne.symm n')]; exact h2, h3⟩
theorem BoxAt.nec {H : Hp} {b c p : Addr} (h : BoxAt H b c) (n : H p = none) : p ≠ c := by
  obtain ⟨cs, i, p, st, h1, h2, h3⟩ := h
  exact (ne_of_none h2 n).symm
theorem BoxAt.ne {H : Hp} {b c p : Addr} (h : BoxAt H b c) (n : H p = none) : p ≠ b := by
  obtain ⟨cs, i, p, st, h1, h2, h3⟩ := h
  exact (ne_of_none h1 n).symm
abbrev sBox : Stmt := top 24
abbrev sTake : Stmt := top 25
abbrev sWords : Stmt := top 26
abbrev sRowsL : Stmt := top 27
def spBox (K : PySem.W.Frag) : Sp := fun vs H Q _ => ∃ (a : Addr) (ns : List Int), vs = [.ref a] ∧ SqL K H a (vI ns) ∧ ns.length ≤ 63 ∧ ∀ H' b c, Same H H' → H b = none → BoxAt H' b c → Q (.ref b) H'
def spTake : Sp := fun vs H Q _ => ∃ (b c : Addr) (m : Int), vs = [.ref b, .int m] ∧ BoxAt H b c ∧ 0 < m ∧ m < 1073741824 ∧ ∀ (r : Nat) H', (r : Int) < m → BoxAt H' b c → Same (off b H) (off b H') → Q (.int r) H'
section
variable {P : Program} {w : World} {K : PySem.W.Frag} {mg : Str → Option Value} {base : Heap}
theorem scBox : FnScope ["_law_script", "_law_cell"] ["_law_script"] (defScope sBox) := ⟨rfl, rfl, rfl, by decide +kernel, rfl, by decide +kernel, by decide +kernel⟩
theorem cut_vI (ns : List Int) (lo hi : Option Int) : ∃ ms, cutV (vI ns) lo hi = vI ms ∧ ms.length ≤ ns.length := by
  refine ⟨(ns.drop (HT.sIx (vI ns).length 0 lo)).take (HT.sIx (vI ns).length (vI ns).length hi - HT.sIx (vI ns).length 0 lo), ?_, ?_⟩
  · unfold cutV vI
    rw [List.map_take, List.map_drop]
  · rw [List.length_take, List.length_drop]
    omega
theorem ok_box {f : Addr} {fd : FuncData} (F : Fun K "_law_box" "_law_box" sBox f fd) (B : Bt mg) : FnOk P w K mg base CX0 1 f fd ["_law_script"] (spBox K) := by
  refine F.ok scBox (fun vs H Q E h => ?_) (fun cdv A outer s H vs Q E hr h => ?_)
  · obtain ⟨a, ns, rfl, _⟩ := h
    rfl
  · obtain ⟨a, ns, rfl, hS, hlen, k⟩ := h
    refine ⟨_, pss_one (ps_ret (pe_lst (pa_cons (pe_lc (own := [("_law_cell", 1)]) (g := gName 1) (tt := tYes) rfl scBox.nd (pi_list (pe_slice sl_list (pv 0) po_none (po_some pe_int))) (blkOk_by (own := [("_law_cell", 1)]) (N := ["_law_script", "_law_cell"]) (sc := defScope sBox) (by decide +kernel))
          (fun _ _ _ _ _ => pg_name (i := 1) scBox.nd rfl (Or.inl rfl)) (fun _ _ _ _ _ => pts_nil)
          (fun _ _ _ _ _ => pe_callB call_abs (by rfl) B.abs (by decide +kernel) (pa_cons (pe_callTy call_int1 (by rfl) B.int (by decide +kernel) (pa_cons (pv 1) pa_nil)) pa_nil)))
        (pa_cons pe_int (pa_cons pe_int (pa_cons pe_int pa_nil)))))), ?_⟩
    refine ⟨_, rfl, 63, rfl, a, _, rfl, hS, fun p hp => ?_⟩
    obtain ⟨ms, em, lm⟩ := cut_vI ns none (some 63)
    rw [em]
    refine ⟨p, rfl, ⟨_, SqL.of upd_same⟩, fun D hD => ?_⟩
    have s1 := Same.new (H := H) (o := .lst (vI ms)) hp
    have hp1 : upd H p (.lst (vI ms)) p = some (.lst (vI ms)) := upd_same
    have hD0 := s1.free hD
    generalize upd H p (.lst (vI ms)) = H1 at hD s1 hp1
    refine lc_list (K := K) (a := p) (xs := vI ms) (fun i H' => Same H1 H' ∧ ∃ cs, H' D = some (.lst (vI cs)) ∧ cs.length = i ∧ ∀ x ∈ cs, 0 ≤ x) ⟨Same.new hD, [], upd_same, rfl, fun _ h => nomatch h⟩ (fun i H' _ ⟨s, _⟩ => SqL.of (s _ _ hp1)) ?_ ?_
    · rintro i y H2 hi ⟨s2, cs, hd, el, hc⟩
      obtain ⟨x, hx, rfl⟩ := vI_at hi
      have hi' := (List.getElem?_eq_some_iff.mp hx).1
      refine ⟨rfl, yesT (iteT ?_)⟩
      refine ⟨_, rfl, .inl ⟨_, rfl, _, rfl, ?_⟩⟩
      refine ⟨_, hd, ?_, Same.updN s2 hD, cs ++ [if x < 0 then -x else x], ?_, by simp [el], ?_⟩
      · rw [vI_len, el]
        exact Nat.lt_of_le_of_lt (by omega : i ≤ 63) (by decide)
      · rw [upd_same]
        unfold vI
        rw [List.map_append]
        rfl
      · intro z hz
        rcases List.mem_append.mp hz with h | h
        · exact hc z h
        · rw [List.mem_singleton.mp h]
          split <;> omega
    · rintro H2 ⟨s2, cs, hd, el, hc⟩
      refine ⟨by show 4 ≤ sizeLine; decide, fun b hb => ?_⟩
      have nDb : D ≠ b := ne_of_none hd hb
      refine k _ b D (s1.trans (Same.upd s2 hb)) ((s1.trans s2).free hb) ⟨cs, 0, 0, 0, upd_same, by rw [upd_ne nDb]; exact hd, nDb, by decide, by decide, by decide, by decide, hc⟩
theorem scTake : FnScope ["_law_box_here", "_law_many", "_law_digit", "_law_cell"] ["_law_box_here", "_law_many"] (defScope sTake) := ⟨rfl, rfl, rfl, by decide +kernel, rfl, by decide +kernel, by decide +kernel⟩
theorem ok_take {f : Addr} {fd : FuncData} (F : Fun K "_law_take" "_law_take" sTake f fd) (B : Bt mg) : FnOk P w K mg base CX0 1 f fd ["_law_box_here", "_law_many"] spTake := by
  refine F.ok scTake (fun vs H Q E h => ?_) (fun cdv A outer s H vs Q E hr h => ?_)
  · obtain ⟨b, c, m, rfl, _⟩ := h
    rfl
  · obtain ⟨b, c, m, rfl, ⟨cs, i, pd, st, hb, hc, ncb, i0, p0, s0, s1, c0⟩, m0, m1, k⟩ := h
    refine ⟨_, pss_cons (ps_if (pt_cmpR op_gt (pe_ix ix_list (pv 0) pe_int (fun _ _ => rfl)) pe_int (nomark _))
        (pss_cons (ps_set (i := 2) scTake.nd rfl (Or.inl rfl) (pe_op op_mod (pe_callTy call_int1 (by rfl) B.int (by decide +kernel) (pa_cons (pe_ix ix_list (pv 0) pe_int (fun _ _ => rfl)) pa_nil)) (pv 1)))
          (pss_cons (ps_asg (pe_op op_fdiv (pe_ix ix_list (pv 0) pe_int (fun _ _ => rfl)) (pv 1)) (pg_sub (pv 0) pe_int set_list)) (pss_one (ps_ret (pv 2))))) pss_nil)
      (pss_cons (ps_set (i := 3) scTake.nd rfl (Or.inl rfl) pe_int)
      (C8.pss_cut (ps_if (pt_cmpR op_lt (pe_ix ix_list (pv 0) pe_int (fun _ _ => rfl)) (pe_callB call_len_seq (by rfl) B.len PySem.boot_len (pa_cons (pe_ix ix_list (pv 0) pe_int (fun _ _ => rfl)) pa_nil)) (nomark _))
        (pss_cons (ps_set (i := 3) scTake.nd rfl (Or.inl rfl) (pe_ix ix_list (pe_ix ix_list (pv 0) pe_int (fun _ _ => rfl)) (pe_ix ix_list (pv 0) pe_int (fun _ _ => rfl)) (fun _ _ => rfl)))
          (pss_one (ps_asg (pe_op op_add (pe_ix ix_list (pv 0) pe_int (fun _ _ => rfl)) pe_int) (pg_sub (pv 0) pe_int set_list)))) pss_nil)
      (pss_cons (ps_if (pt_cmpR op_ge (pv 3) (pe_op op_pow pe_int pe_int) (nomark _))
        (pss_cons (ps_asg (pe_op op_fdiv (pv 3) (pv 1)) (pg_sub (pv 0) pe_int set_list)) (pss_one (ps_ret (pe_op op_mod (pe_callTy call_int1 (by rfl) B.int (by decide +kernel) (pa_cons (pv 3) pa_nil)) (pv 1))))) pss_nil)
      (pss_cons (ps_asg (pe_op op_mod (pe_callTy call_int1 (by rfl) B.int (by decide +kernel) (pa_cons (pe_op op_add (pe_op op_mul (pe_ix ix_list (pv 0) pe_int (fun _ _ => rfl)) pe_int) (pv 3)) pa_nil)) pe_int) (pg_sub (pv 0) pe_int set_list))
      (pss_one (ps_ret (pe_op op_mod (pe_callTy call_int1 (by rfl) B.int (by decide +kernel) (pa_cons (pe_op op_fdiv (pe_op op_mod (pe_callTy call_int1 (by rfl) B.int (by decide +kernel) (pa_cons (pe_op op_mul (pe_ix ix_list (pv 0) pe_int (fun _ _ => rfl)) pe_int) pa_nil)) pe_int) pe_int) pa_nil)) (pv 1)))))))), ?_⟩
    have box : ∀ (i' pd' st' : Int), 0 ≤ i' → 0 ≤ pd' → 0 ≤ st' → st' < 2147483647 → BoxAt (upd H b (.lst [.ref c, .int i', .int pd', .int st'])) b c := fun i' pd' st' a1 a2 a3 a4 =>
      ⟨cs, i', pd', st', upd_same, by rw [upd_ne ncb]; exact hc, ncb, a1, a2, a3, a4, c0⟩
    have at0 : ∀ (x y z u : V), atI [x, y, z, u] 0 = some x := fun _ _ _ _ => rfl
    have at1 : ∀ (x y z u : V), atI [x, y, z, u] 1 = some y := fun _ _ _ _ => rfl
    have at2 : ∀ (x y z u : V), atI [x, y, z, u] 2 = some z := fun _ _ _ _ => rfl
    have at3 : ∀ (x y z u : V), atI [x, y, z, u] 3 = some u := fun _ _ _ _ => rfl
    refine ⟨_, rfl, b, _, 2, _, rfl, rfl, SqL.of hb, at2 _ _ _ _, _, _, rfl, rfl, _, rfl, ?_⟩
    refine ite2 (fun q => ?_) (fun q => ?_)
    · -- a digit of what is held back
      refine ⟨_, rfl, b, _, 2, _, rfl, rfl, SqL.of hb, at2 _ _ _ _, .inl ⟨_, rfl, _, rfl, _, _, rfl, rfl, m0, ?_⟩⟩
      refine ⟨_, rfl, b, _, 2, _, rfl, rfl, SqL.of hb, at2 _ _ _ _, _, rfl, _, _, rfl, rfl, ⟨m0, m1⟩, ?_⟩
      refine ⟨_, rfl, b, _, 2, 2, rfl, rfl, hb, rfl, ?_⟩
      refine ⟨_, rfl, ?_⟩
      have h1 := Int.emod_nonneg pd (by omega : m ≠ 0)
      have h2 := Int.emod_lt_of_pos pd m0
      obtain ⟨r, hr'⟩ := Int.eq_ofNat_of_zero_le h1
      have z := k r _ (by omega) (box i (pd / m) st i0 (Int.ediv_nonneg p0 (by omega)) s0 s1) (by rw [off_upd]; exact Same.refl _)
      rw [← hr'] at z
      exact z
    · refine ⟨fun σ' H' => ∃ (i' cell : Int), σ' = [some (.ref b), some (.int m), none, some (.int cell)] ∧ 0 ≤ i' ∧ 0 ≤ cell ∧ H' b = some (.lst [.ref c, .int i', .int pd, .int st]) ∧ Same (off b H) (off b H'), ?_, ?_⟩
      · refine ⟨_, rfl, b, _, 1, _, rfl, rfl, SqL.of hb, at1 _ _ _ _, ?_⟩
        refine ⟨_, rfl, b, _, 0, _, rfl, rfl, SqL.of hb, at0 _ _ _ _, c, _, rfl, .inl (SqL.of hc), _, _, rfl, rfl, _, rfl, ?_⟩
        refine ite2 (fun q => ?_) (fun q => ⟨i, 0, rfl, i0, by decide, hb, Same.refl _⟩)
        rw [decide_eq_true_iff, vI_len] at q
        obtain ⟨i1, rfl⟩ := Int.eq_ofNat_of_zero_le i0
        obtain ⟨x, hx⟩ : ∃ x, cs[i1]? = some x := ⟨_, List.getElem?_eq_getElem (by omega)⟩
        have hxv : (vI cs)[i1]? = some (.int x) := by unfold vI; rw [List.getElem?_map, hx]; rfl
        refine ⟨_, rfl, b, _, 0, _, rfl, rfl, SqL.of hb, at0 _ _ _ _, ?_⟩
        refine ⟨_, rfl, b, _, 1, _, rfl, rfl, SqL.of hb, at1 _ _ _ _, c, _, _, _, rfl, rfl, SqL.of hc, atI_nat hxv, ?_⟩
        refine ⟨_, rfl, b, _, 1, _, rfl, rfl, SqL.of hb, at1 _ _ _ _, _, _, rfl, rfl, ?_⟩
        refine ⟨_, rfl, b, _, 1, 1, rfl, rfl, hb, rfl, ?_⟩
        exact ⟨(i1 : Int) + 1, x, rfl, by omega, c0 x (List.mem_of_getElem? hx), upd_same, by rw [off_upd]; exact Same.refl _⟩
      · rintro σ' H' ⟨i', cell, rfl, j0, c1, hb', so⟩
        have hc' : H' c = some (.lst (vI cs)) := off_le _ _ (so _ _ (by rw [off_ne ncb]; exact hc))
        have box : ∀ (i' pd' st' : Int), 0 ≤ i' → 0 ≤ pd' → 0 ≤ st' → st' < 2147483647 → BoxAt (upd H' b (.lst [.ref c, .int i', .int pd', .int st'])) b c := fun i' pd' st' a1 a2 a3 a4 =>
          ⟨cs, i', pd', st', upd_same, by rw [upd_ne ncb]; exact hc', ncb, a1, a2, a3, a4, c0⟩
        refine ⟨_, rfl, _, _, rfl, rfl, ⟨by decide, by decide, by decide⟩, _, _, rfl, rfl, _, rfl, ?_⟩
        refine ite2 (fun q => ?_) (fun q => ?_)
        · refine ⟨_, rfl, _, rfl, _, _, rfl, rfl, ⟨m0, m1⟩, ?_⟩
          refine ⟨_, rfl, b, _, 2, 2, rfl, rfl, hb', rfl, ?_⟩
          refine ⟨_, rfl, .inl ⟨_, rfl, _, rfl, _, _, rfl, rfl, m0, ?_⟩⟩
          have h1 := Int.emod_nonneg cell (by omega : m ≠ 0)
          have h2 := Int.emod_lt_of_pos cell m0
          obtain ⟨r, hr'⟩ := Int.eq_ofNat_of_zero_le h1
          have z := k r _ (by omega) (box i' (cell / m) st j0 (Int.ediv_nonneg c1 (by omega)) s0 s1) (by rw [off_upd]; exact so)
          rw [← hr'] at z
          exact z
        · refine ⟨_, rfl, b, _, 3, _, rfl, rfl, SqL.of hb', at3 _ _ _ _, _, _, rfl, rfl, .inl ⟨by omega, by omega⟩, ?_⟩
          refine ⟨_, rfl, _, _, rfl, rfl, .inl ⟨_, rfl, _, _, rfl, rfl, (by show (0 : Int) < 2147483647; decide), ?_⟩⟩
          refine ⟨_, rfl, b, _, 3, 3, rfl, rfl, hb', rfl, ?_⟩
          have h1 := Int.emod_nonneg (st * 48271 + cell) (by decide : (2147483647 : Int) ≠ 0)
          have h2 := Int.emod_lt_of_pos (st * 48271 + cell) (by decide : (0 : Int) < 2147483647)
          have bx := box i' pd ((st * 48271 + cell) % 2147483647) j0 p0 h1 h2
          have eb : (upd H' b (.lst [.ref c, .int i', .int pd, .int ((st * 48271 + cell) % 2147483647)])) b = some (.lst [.ref c, .int i', .int pd, .int ((st * 48271 + cell) % 2147483647)]) := upd_same
          have so2 : Same (off b H) (off b (upd H' b (.lst [.ref c, .int i', .int pd, .int ((st * 48271 + cell) % 2147483647)]))) := by rw [off_upd]; exact so
          refine ⟨_, rfl, b, _, 3, _, rfl, rfl, SqL.of eb, at3 _ _ _ _, _, _, rfl, rfl, .inl ⟨by omega, by omega⟩, .inl ⟨_, rfl, _, _, rfl, rfl, (by show (0 : Int) < 2147483629; decide), _, _, rfl, rfl, ⟨by decide, by decide⟩, .inl ⟨_, rfl, _, rfl, _, _, rfl, rfl, m0, ?_⟩⟩⟩
          have h3 := Int.emod_nonneg ((st * 48271 + cell) % 2147483647 * 69621 % 2147483629 / 16) (by omega : m ≠ 0)
          have h4 := Int.emod_lt_of_pos ((st * 48271 + cell) % 2147483647 * 69621 % 2147483629 / 16) m0
          obtain ⟨r, hr'⟩ := Int.eq_ofNat_of_zero_le h3
          have z := k r _ (by omega) bx so2
          rw [← hr'] at z
          exact z
end
end Toy
namespace Toy
open PySem L2
/-! ### canonical lists of words -/
def Can (n : Nat) (ws : List Int) : Prop := asc ws n = ws
theorem asc_congr {a b : List Int} : ∀ {n : Nat}, (∀ j : Nat, j < n → (((j : Int) ∈ a) ↔ ((j : Int) ∈ b))) → asc a n = asc b n
  | 0, _ => rfl
  | n + 1, h => by
    rw [asc_succ, asc_succ, asc_congr (n := n) fun j hj => h j (by omega)]
    have q := h n (by omega)
    by_cases c : (n : Int) ∈ a
    · rw [if_pos c, if_pos (q.mp c)]
    · rw [if_neg c, if_neg fun z => c (q.mpr z)]
theorem asc_mem {ns : List Int} {n : Nat} {x : Int} (h : x ∈ asc ns n) : x ∈ ns ∧ 0 ≤ x ∧ x < (n : Int) := by
  unfold asc at h
  obtain ⟨i, hi, rfl⟩ := List.mem_map.mp h
  obtain ⟨h1, h2⟩ := List.mem_filter.mp hi
  have := List.mem_range.mp h1
  exact ⟨of_decide_eq_true h2, by omega, by omega⟩
theorem Can.mem {n : Nat} {ws : List Int} (c : Can n ws) {x : Int} (h : x ∈ ws) : 0 ≤ x ∧ x < (n : Int) := by
  have c' : asc ws n = ws := c
  rw [← c'] at h
  exact (asc_mem h).2
theorem Can.len {n : Nat} {ws : List Int} (c : Can n ws) : ws.length ≤ n := by
  have c' : asc ws n = ws := c
  rw [← c']
  exact asc_len _ _
theorem Can.skip {n : Nat} {ws : List Int} (c : Can n ws) : Can (n + 1) ws := by
  show asc ws (n + 1) = ws
  rw [asc_succ, if_neg fun h => by have := c.mem h; omega]
  exact c
theorem Can.add {n : Nat} {ws : List Int} (c : Can n ws) : Can (n + 1) (ws ++ [(n : Int)]) := by
  show asc (ws ++ [(n : Int)]) (n + 1) = _
  rw [asc_succ, if_pos (by simp)]
  have e : asc (ws ++ [(n : Int)]) n = asc ws n := asc_congr fun j hj => by
    have : ¬ ((j : Int) = (n : Int)) := by omega
    simp [this]
  rw [e, c]
theorem Can.one {n : Nat} {x : Nat} (h : x < n) : Can n [(x : Int)] := by
  induction n with
  | zero => omega
  | succ n ih =>
    by_cases e : x = n
    · subst e
      exact Can.add (n := x) (ws := []) (by
        show asc [] x = []
        unfold asc
        simp)
    · exact (ih (by omega)).skip
theorem Can.nil {n : Nat} : Can n [] := by
  show asc [] n = []
  unfold asc
  simp
theorem six : ∀ i : Nat, i < 6 → ∃ d : Int, ([V.int 1, V.int 2, V.int 4, V.int 8, V.int 16, V.int 32] : List V)[i]? = some (.int d) ∧ 0 < d ∧ d < 1073741824
  | 0, _ => ⟨1, rfl, by decide, by decide⟩
  | 1, _ => ⟨2, rfl, by decide, by decide⟩
  | 2, _ => ⟨4, rfl, by decide, by decide⟩
  | 3, _ => ⟨8, rfl, by decide, by decide⟩
  | 4, _ => ⟨16, rfl, by decide, by decide⟩
  | 5, _ => ⟨32, rfl, by decide, by decide⟩
  | i + 6, h => by omega
theorem seven : ∀ i : Nat, 1 ≤ i → i ≤ 6 → ∃ d : Int, ([V.int 1, V.int 2, V.int 4, V.int 8, V.int 16, V.int 32, V.int 64] : List V)[i]? = some (.int d) ∧ 2 ≤ d ∧ d ≤ 64
  | 0, h, _ => by omega
  | 1, _, _ => ⟨2, rfl, by decide, by decide⟩
  | 2, _, _ => ⟨4, rfl, by decide, by decide⟩
  | 3, _, _ => ⟨8, rfl, by decide, by decide⟩
  | 4, _, _ => ⟨16, rfl, by decide, by decide⟩
  | 5, _, _ => ⟨32, rfl, by decide, by decide⟩
  | 6, _, _ => ⟨64, rfl, by decide, by decide⟩
  | i + 7, _, h => by omega
def spWords : Sp := fun vs H Q _ => ∃ (b c : Addr) (n : Nat) (least : Int), vs = [.ref b, .int n, .int least] ∧ BoxAt H b c ∧ 1 ≤ n ∧ n ≤ 6 ∧ 0 ≤ least ∧ least ≤ 1 ∧
  ∀ H' l ws, BoxAt H' b c → Same (off b H) (off b H') → off b H l = none → off b H' l = some (.lst (vI ws)) → Can n ws → Q (.ref l) H'
structure Lt (K : PySem.W.Frag) (mg : Str → Option Value) : Prop where
  B : Bt mg
  take : ∃ f fd, Fun K "_law_take" "_law_take" sTake f fd ∧ mg "_law_take" = some (.ref f) ∧ Binds K fd ["_law_box_here", "_law_many"] []
  words : ∃ f fd, Fun K "_law_words" "_law_words" sWords f fd ∧ mg "_law_words" = some (.ref f) ∧ Binds K fd ["_law_box_here", "_law_n", "_law_least"] []
section
variable {P : Program} {w : World} {K : PySem.W.Frag} {mg : Str → Option Value} {base : Heap}
theorem scWords : FnScope ["_law_box_here", "_law_n", "_law_least", "_law_mask", "_law_word"] ["_law_box_here", "_law_n", "_law_least"] (defScope sWords) := ⟨rfl, rfl, rfl, by decide +kernel, rfl, by decide +kernel, by decide +kernel⟩
theorem off_free {b l : Addr} {H : Hp} (h : H l = none) : off b H l = none := by
  by_cases e : l = b
  · rw [e, off_at]
  · rw [off_ne e]; exact h
theorem ok_words {f : Addr} {fd : FuncData} (F : Fun K "_law_words" "_law_words" sWords f fd) (S : Lt K mg) : FnOk P w K mg base CX0 2 f fd ["_law_box_here", "_law_n", "_law_least"] spWords := by
  obtain ⟨fT, fdT, FT, mT, bT⟩ := S.take
  refine F.ok scWords (fun vs H Q E h => ?_) (fun cdv A outer s H vs Q E hr h => ?_)
  · obtain ⟨b, c, n, least, rfl, _⟩ := h
    rfl
  · obtain ⟨b, c, n, least, rfl, hb, n1, n6, l0, l1, k⟩ := h
    refine ⟨_, pss_cons (ps_set (i := 3) scWords.nd rfl (Or.inr rfl) (pe_op op_add (pv 2) (pe_call (ok_take FT S.B) hr rfl mT FT.kp bT .nil pass0 (pa_cons (pv 0) (pa_cons (pe_op op_sub
        (pe_ix ix_list (pe_lst (pa_cons pe_int (pa_cons pe_int (pa_cons pe_int (pa_cons pe_int (pa_cons pe_int (pa_cons pe_int (pa_cons pe_int pa_nil)))))))) (pv 1) (fun _ _ => rfl)) (pv 2)) pa_nil)))))
      (pss_one (ps_ret (pe_lc (own := [("_law_word", 4)]) (g := gName 4)
          (tt := tTest (tOp rEq (tOp (rI (fun _ j => 0 < j) fun i j => .int (i % j)) (tCB (fun xs H Q => (∃ i, xs = [.int i] ∧ Q (.int i) H) ∨ ∃ k, xs = [.bl k] ∧ Q (.int (if k then 1 else 0)) H) (tCons (tOp (rI CDiv fun i j => .int (i / j)) (tVar 3)
            (tOp (rIxL K) (tLst (tCons (tC (.int 1)) (tCons (tC (.int 2)) (tCons (tC (.int 4)) (tCons (tC (.int 8)) (tCons (tC (.int 16)) (tCons (tC (.int 32)) tNil))))))) (tVar 4))) tNil)) (tC (.int 2))) (tC (.int 1))))
          rfl scWords.nd (pi_range1 (by rfl) S.B.range (pa_cons (pv 1) pa_nil)) (blkOk_by (own := [("_law_word", 4)]) (N := ["_law_box_here", "_law_n", "_law_least", "_law_mask", "_law_word"]) (sc := defScope sWords) (by decide +kernel))
          (fun _ _ _ _ _ => pg_name (i := 4) scWords.nd rfl (Or.inl rfl))
          (fun _ _ _ _ _ => pts_one (pt_cmpR op_eq (pe_op op_mod (pe_callTy call_int1 (by rfl) S.B.int (by decide +kernel) (pa_cons (pe_op op_fdiv (pv 3)
            (pe_ix ix_list (pe_lst (pa_cons pe_int (pa_cons pe_int (pa_cons pe_int (pa_cons pe_int (pa_cons pe_int (pa_cons pe_int pa_nil))))))) (pv 4) (fun _ _ => rfl))) pa_nil)) pe_int) pe_int (nomark _)))
          (fun _ _ _ _ _ => pv 4)))), ?_⟩
    obtain ⟨d, hd, d2, d64⟩ := seven n n1 n6
    refine ⟨_, rfl, _, rfl, by show 7 ≤ sizeLine; decide, fun p hp => ?_⟩
    refine ⟨_, rfl, p, _, n, _, rfl, rfl, SqL.of upd_same, atI_nat hd, _, rfl, _, _, rfl, rfl, ?_⟩
    have pb := hb.ne hp
    have s0 := Same.new (H := H) (o := .lst [V.int 1, V.int 2, V.int 4, V.int 8, V.int 16, V.int 32, V.int 64]) hp
    refine ⟨b, c, d - least, rfl, hb.same s0, by omega, by omega, fun r H1 hr1 hb1 so1 => ?_⟩
    refine ⟨_, _, rfl, rfl, ?_⟩
    have so := L2.Same.trans (Same.off (b := b) s0) so1
    refine ⟨_, rfl, n, rfl, by omega, by omega, fun D hD => ?_⟩
    have nDb := hb1.ne hD
    have hDo : off b H D = none := so.free (off_free hD)
    refine lc_range (lo := 0) (n := n) (fun i H' => Same H1 H' ∧ ∃ ws, H' D = some (.lst (vI ws)) ∧ Can i ws) ⟨Same.new hD, [], upd_same, .nil⟩ ?_ ?_
    · rintro i H2 hi ⟨s2, ws, hd2, hc⟩
      obtain ⟨e, he, e0, e1⟩ := six i (by omega)
      refine ⟨rfl, ?_⟩
      refine ⟨_, rfl, by show 6 ≤ sizeLine; decide, fun q hq => ?_⟩
      have nDq : D ≠ q := ne_of_none hd2 hq
      have s3 := Same.new (H := H2) (o := .lst [V.int 1, V.int 2, V.int 4, V.int 8, V.int 16, V.int 32]) hq
      refine ⟨_, rfl, q, _, _, _, rfl, rfl, SqL.of upd_same, at_of (j := i) (by omega) he, _, _, rfl, rfl, ⟨e0, e1⟩, .inl ⟨_, rfl, _, _, rfl, rfl, (by show (0 : Int) < 2; decide), rfl, _, rfl, ?_⟩⟩
      refine ite2 (fun _ => ?_) (fun _ => ?_)
      · refine ⟨_, rfl, _, s3 _ _ hd2, ?_, Same.updN (s2.trans s3) hD, ws ++ [(i : Int)], ?_, hc.add⟩
        · rw [vI_len]
          exact Nat.lt_of_le_of_lt (Nat.le_trans hc.len (by omega : i ≤ 6)) (by decide)
        · rw [upd_same]
          unfold vI
          rw [List.map_append, Int.zero_add]
          rfl
      · exact ⟨s2.trans s3, ws, s3 _ _ hd2, hc.skip⟩
    · rintro H2 ⟨s2, ws, hd2, hc⟩
      exact k H2 D ws (hb1.same s2) (so.trans (Same.off s2)) hDo (by rw [off_ne nDb]; exact hd2) hc
end
end Toy
namespace Toy
open PySem L2
/-! ### data compared -/
def dI (ns : List Int) : List PyData := ns.map PyData.int
theorem eqv_dI : ∀ a b : List Int, PyData.eqvAll (dI a) (dI b) = decide (a = b)
  | [], [] => by simp [dI, PyData.eqvAll]
  | [], _ :: _ => by simp [dI, PyData.eqvAll]
  | _ :: _, [] => by simp [dI, PyData.eqvAll]
  | x :: a, y :: b => by
    have ih := eqv_dI a b
    show PyData.eqvAll (.int x :: dI a) (.int y :: dI b) = _
    rw [PyData.eqvAll, PyData.eqv, ih]
    by_cases h : x = y
    · subst h
      simp
    · simp [h]
theorem lay_dI : ∀ a : List Int, PyData.canLayAll0 (dI a) = true
  | [] => rfl
  | x :: a => by
    show (PyData.canLay0 (.int x) && PyData.canLayAll0 (dI a)) = true
    rw [lay_dI a]
    rfl
theorem dep_dI : ∀ a : List Int, PyData.depthAll (dI a) = 0
  | [] => rfl
  | x :: a => by
    show max (PyData.depth (.int x)) (PyData.depthAll (dI a)) = 0
    rw [dep_dI a]
    rfl
theorem shI (a : List Int) : SeqAt.shaped (.list (dI a)) = true := by
  show (PyData.canLayAll0 (dI a) && decide (PyData.depthAll (dI a) + 1 ≤ 64)) = true
  rw [lay_dI, dep_dI]
  rfl
theorem eqI (a b : List Int) : PyData.eqv (.list (dI a)) (.list (dI b)) = decide (a = b) := by rw [PyData.eqv, eqv_dI]
theorem dpAllI {K : PySem.W.Frag} {H : Hp} : ∀ a : List Int, DpAll K H (vI a) (dI a)
  | [] => .nil
  | x :: a => .cons (.int x) (dpAllI a)
theorem dpI {K : PySem.W.Frag} {H : Hp} {l : Addr} {a : List Int} (h : SqL K H l (vI a)) : Dp K H (.ref l) (.list (dI a)) := .lst h (dpAllI a)
theorem dpT {K : PySem.W.Frag} {H : Hp} {l : Addr} {a : List Int} (h : SqT K H l (vI a)) : Dp K H (.ref l) (.tuple (dI a)) := .tup h (dpAllI a)
/-! ### rows that are new -/
theorem RowsN.same {G0 G G' : Hp} {ls R} (s : Same G G') (h : RowsN G0 G ls R) : RowsN G0 G' ls R := L2.Paired.mapP h fun _ _ ⟨t, e, q, z⟩ => ⟨t, e, s _ _ q, z⟩
theorem RowsN.rows {G0 G : Hp} {ls R} (h : RowsN G0 G ls R) : RowsL G ls R := L2.Paired.mapP h fun _ _ ⟨t, e, q, z⟩ => ⟨t, e, q⟩
theorem RowsN.snoc {G0 G : Hp} {l t : Addr} {o : HO} {ls R r} (h : RowsN G0 G ls R) (nl : ∀ v ∈ ls, v ≠ .ref l) (ht : G t = some (.lst (vI r))) (h0 : G0 t = none) (n : t ≠ l) :
    RowsN G0 (upd G l o) (ls ++ [.ref t]) (R ++ [r]) ∧ ∀ v ∈ ls ++ [V.ref t], v ≠ .ref l := by
  refine ⟨L2.Paired.snoc ⟨t, rfl, by rw [upd_ne n]; exact ht, h0⟩ (PairedIn.map h fun v r hv ⟨t', e, q, z⟩ => ⟨t', e, ?_, z⟩), fun v hv => ?_⟩
  · rw [upd_ne fun z => nl v hv (by rw [e, z])]
    exact q
  · rcases List.mem_append.mp hv with hv | hv
    · exact nl v hv
    · rw [List.mem_singleton.mp hv]
      exact fun z => n (V.ref.inj z)
def spRowsL : Sp := fun vs H Q _ => ∃ (b c : Addr) (n : Nat) (least : Int), vs = [.ref b, .int n, .int least] ∧ BoxAt H b c ∧ 1 ≤ n ∧ n ≤ 6 ∧ 0 ≤ least ∧ least ≤ 1 ∧
  ∀ H' l ls R, BoxAt H' b c → Same (off b H) (off b H') → off b H l = none → off b H' l = some (.lst ls) → RowsN (off b H) (off b H') ls R → R.length = n → (∀ r ∈ R, Can n r) → Q (.ref l) H'
theorem tf_rows' (n : Nat) (tr tp : Addr) : (tf n tr tp).lookup ("rows" : Str) = none := tf_no _ _ _ (by decide +kernel) (by decide +kernel) (by decide +kernel)
end Toy
namespace Toy
open PySem L2
section
variable {P : Program} {w : World} {K : PySem.W.Frag} {mg : Str → Option Value} {base : Heap}
theorem scRowsL : FnScope ["_law_box_here", "_law_n", "_law_least", "_law_rows_here", "_law_k"] ["_law_box_here", "_law_n", "_law_least"] (defScope sRowsL) := ⟨rfl, rfl, rfl, by decide +kernel, rfl, by decide +kernel, by decide +kernel⟩
theorem ok_rowsL {f : Addr} {fd : FuncData} (F : Fun K "_law_rows" "_law_rows" sRowsL f fd) (S : Lt K mg) : FnOk P w K mg base CX0 3 f fd ["_law_box_here", "_law_n", "_law_least"] spRowsL := by
  obtain ⟨fT, fdT, FT, mT, bT⟩ := S.take
  obtain ⟨fW, fdW, FW, mW, bW⟩ := S.words
  refine F.ok scRowsL (fun vs H Q E h => ?_) (fun cdv A outer s H vs Q E hr h => ?_)
  · obtain ⟨b, c, n, least, rfl, _⟩ := h
    rfl
  · obtain ⟨b, c, n, least, rfl, hb, n1, n6, l0, l1, k⟩ := h
    have hr1 : Room 1 _ := hr.mono (by decide)
    refine ⟨_, pss_cons (ps_set (i := 3) scRowsL.nd rfl (Or.inl rfl) (pe_lst pa_nil))
      (pss_cons (ps_for PassesOwn.never rfl (pi_range1 (by rfl) S.B.range (pa_cons (pv 1) pa_nil)) (pg_name (i := 4) scRowsL.nd rfl (Or.inl rfl))
        (pss_one (ps_if (pt_cmpR op_eq (pe_call (ok_take FT S.B) hr1 rfl mT FT.kp bT .nil pass0 (pa_cons (pv 0) (pa_cons pe_int pa_nil))) pe_int (nomark _))
          (pss_one (ps_expr (pe_bm PySem.F.plainAttrs_list PySem.F.slot_list_append PySem.F.type_list_append mt_append (pv 3) (pa_cons (pe_lst (pa_cons (pe_call (ok_take FT S.B) hr1 rfl mT FT.kp bT .nil pass0 (pa_cons (pv 0) (pa_cons (pv 1) pa_nil))) pa_nil)) pa_nil))))
          (pss_one (ps_expr (pe_bm PySem.F.plainAttrs_list PySem.F.slot_list_append PySem.F.type_list_append mt_append (pv 3) (pa_cons (pe_call (ok_words FW S) hr rfl mW FW.kp bW .nil pass0 (pa_cons (pv 0) (pa_cons (pv 1) (pa_cons (pv 2) pa_nil)))) pa_nil)))))))
      (pss_one (ps_ret (pv 3)))), ?_⟩
    refine ⟨Nat.zero_le _, fun l hl => ?_⟩
    have lb := hb.ne hl
    have lc := hb.nec hl
    refine ⟨_, rfl, n, rfl, by omega, by omega, ?_⟩
    refine for_range (lo := 0) (n := n) (fun i σ H' => ∃ (v : Option V) (ls : List V) (R : List (List Int)), σ = [some (.ref b), some (.int n), some (.int least), some (.ref l), v] ∧ BoxAt H' b c ∧ Same (off b H) (off b H') ∧
        off b H' l = some (.lst ls) ∧ RowsN (off b H) (off b H') ls R ∧ (∀ v ∈ ls, v ≠ .ref l) ∧ R.length = i ∧ ∀ r ∈ R, Can n r)
      ⟨none, [], [], rfl, hb.same (Same.new hl), by rw [off_updN lb]; exact Same.new (off_free hl), by rw [off_ne lb]; exact upd_same, .nil, fun _ h => (by cases h), rfl, fun _ h => (by cases h)⟩ ?_ ?_
    · rintro i σ H1 hi ⟨v, ls, R, rfl, hb1, s1, hl1, hR, nl, eR, hC⟩
      have hlen : ls.length ≤ 6 := by rw [Paired.length hR]; omega
      refine ⟨_, rfl, b, c, 3, rfl, hb1, by decide, by decide, fun r1 H2 hr1 hb2 s2 => ?_⟩
      refine ⟨rfl, _, rfl, ?_⟩
      have hl2 := s2 _ _ hl1
      refine ite2 (fun _ => ?_) (fun _ => ?_)
      · refine ⟨_, rfl, .inl ⟨rfl, _, SqL.of (off_le _ _ hl2)⟩, _, rfl, _, rfl, b, c, (n : Int), rfl, hb2, by omega, by omega, fun r H3 hr3 hb3 s3 => ?_⟩
        refine ⟨by show 1 ≤ sizeLine; decide, fun q hq => ?_⟩
        have qb := hb3.ne hq
        have hl3 := s3 _ _ hl2
        have s4 : Same (off b H3) (off b (upd H3 q (.lst [V.int (r : Int)]))) := Same.off (Same.new hq)
        have hl4 := s4 _ _ hl3
        have hq4 : off b (upd H3 q (.lst [V.int (r : Int)])) q = some (.lst (vI [(r : Int)])) := by rw [off_ne qb]; exact upd_same
        have hb4 := hb3.same (Same.new (o := .lst [V.int (r : Int)]) hq)
        have q0 : off b H q = none := (s1.trans (s2.trans s3)).free (off_free hq)
        have ql : q ≠ l := (ne_of_none hl3 (off_free hq)).symm
        have sT := s2.trans (s3.trans s4)
        have hRT := RowsN.same sT hR
        generalize upd H3 q (.lst [V.int (r : Int)]) = H4 at s4 hl4 hq4 hb4 sT hRT
        obtain ⟨z1, z2⟩ := RowsN.snoc (o := .lst (ls ++ [.ref q])) hRT nl hq4 q0 ql
        refine ⟨l, ls, _, rfl, rfl, off_le _ _ hl4, Nat.lt_of_le_of_lt hlen (by decide), _, ls ++ [.ref q], R ++ [[(r : Int)]], rfl, ?_, ?_, ?_, ?_, z2, by rw [List.length_append, eR]; rfl, ?_⟩
        · exact hb4.upd lb lc
        · rw [off_updN lb]
          exact Same.updN (s1.trans sT) (off_free hl)
        · rw [off_updN lb]; exact upd_same
        · rw [off_updN lb]; exact z1
        · intro r' h
          rcases List.mem_append.mp h with h | h
          · exact hC _ h
          · rw [List.mem_singleton.mp h]
            exact Can.one (by omega)
      · refine ⟨_, rfl, .inl ⟨rfl, _, SqL.of (off_le _ _ hl2)⟩, _, rfl, _, rfl, _, rfl, b, c, n, least, rfl, hb2, n1, n6, l0, l1, fun H3 q ws hb3 s3 q0 hq hC' => ?_⟩
        have hl3 := s3 _ _ hl2
        have ql : q ≠ l := (ne_of_none hl2 q0).symm
        have q00 : off b H q = none := (s1.trans s2).free q0
        have sT := s2.trans s3
        have hRT := RowsN.same sT hR
        obtain ⟨z1, z2⟩ := RowsN.snoc (o := .lst (ls ++ [.ref q])) hRT nl hq q00 ql
        refine ⟨l, ls, _, rfl, rfl, off_le _ _ hl3, Nat.lt_of_le_of_lt hlen (by decide), _, ls ++ [.ref q], R ++ [ws], rfl, hb3.upd lb lc, ?_, ?_, ?_, z2, by rw [List.length_append, eR]; rfl, ?_⟩
        · rw [off_updN lb]
          exact Same.updN (s1.trans sT) (off_free hl)
        · rw [off_updN lb]; exact upd_same
        · rw [off_updN lb]; exact z1
        · intro r' h
          rcases List.mem_append.mp h with h | h
          · exact hC _ h
          · rw [List.mem_singleton.mp h]
            exact hC'
    · rintro σ H1 ⟨v, ls, R, rfl, hb1, s1, hl1, hR, nl, eR, hC⟩
      exact ⟨_, rfl, k H1 l ls R hb1 s1 (off_free hl) hl1 hR eR hC⟩
end
end Toy
namespace Toy
open PySem L2
theorem Tab.off {C b c : Addr} {H : Hp} {p : Addr} {R} (h : Tab C H p R) (hb : BoxAt H b c) : Tab C (Toy.off b H) p R := by
  obtain ⟨dx, tr, tp, ts, qs, h1, h2, h3, h4, h5, h6, h7⟩ := h
  obtain ⟨cs, i, pd, st, e, _⟩ := hb
  have ne : ∀ {a : Addr} {o : HO}, H a = some o → o ≠ .lst [.ref c, .int i, .int pd, .int st] → Toy.off b H a = some o := fun q d => by rw [off_ne (ne_of q e d)]; exact q
  exact ⟨dx, tr, tp, ts, qs, ne h1 (fun z => nomatch z), ne h2 (fun z => nomatch z), ne h3 (fun z => nomatch z), L2.Paired.mapP h4 fun _ _ ⟨t, e, q⟩ => ⟨t, e, ne q (fun z => nomatch z)⟩, ne h5 (fun z => nomatch z), L2.Paired.mapP h6 fun _ _ ⟨t, e, q⟩ => ⟨t, e, ne q (fun z => nomatch z)⟩, h7⟩
theorem Tab.updL {C : Addr} {H : Hp} {p a : Addr} {xs ys : List V} {R} (h : Tab C H p R) (e : H a = some (.lst xs)) : Tab C (upd H a (.lst ys)) p R := by
  obtain ⟨dx, tr, tp, ts, qs, h1, h2, h3, h4, h5, h6, h7⟩ := h
  have ne : ∀ {b : Addr} {o : HO}, H b = some o → o ≠ .lst xs → upd H a (.lst ys) b = some o := fun q d => by rw [upd_ne (ne_of q e d)]; exact q
  exact ⟨dx, tr, tp, ts, qs, ne h1 (fun z => nomatch z), ne h2 (fun z => nomatch z), ne h3 (fun z => nomatch z), L2.Paired.mapP h4 fun _ _ ⟨t, e, q⟩ => ⟨t, e, ne q (fun z => nomatch z)⟩, ne h5 (fun z => nomatch z), L2.Paired.mapP h6 fun _ _ ⟨t, e, q⟩ => ⟨t, e, ne q (fun z => nomatch z)⟩, h7⟩
theorem Paired.mem {α β : Type} {F : α → β → Prop} {xs : List α} {ys : List β} (h : Paired F xs ys) {x : α} (m : x ∈ xs) : ∃ y, y ∈ ys ∧ F x y := by
  obtain ⟨i, hi⟩ := List.mem_iff_getElem?.mp m
  obtain ⟨y, hy, f⟩ := L2.Paired.at h hi
  exact ⟨y, List.mem_of_getElem? hy, f⟩
/-- a table made of canonical rows has these rows -/
theorem same_rows {n : Nat} : ∀ {R : List (List Int)}, (∀ r ∈ R, Can n r) → (R.map fun g => asc g n) = R
  | [], _ => rfl
  | r :: R, c => by
    have ih := same_rows fun r hr => c r (List.mem_cons_of_mem _ hr)
    have cr : asc r n = r := c r List.mem_cons_self
    rw [List.map_cons, ih, cr]
theorem can_all {n : Nat} {R : List (List Int)} (hC : ∀ r ∈ R, Can n r) (h6 : n ≤ 6) : ∀ g ∈ R, g.length < sizeLine ∧ g.all (isW n) = true := fun g hg => by
  refine ⟨Nat.lt_of_le_of_lt (Nat.le_trans (hC g hg).len h6) (by decide), List.all_eq_true.mpr fun x hx => ?_⟩
  have := (hC g hg).mem hx
  unfold isW
  rw [decide_eq_true this.1, decide_eq_true this.2]
  rfl
theorem BoxAt.keep {H H' : Hp} {b c x : Addr} (h : BoxAt H b c) (hx : H x = none) (k : ∀ q o, q ≠ x → H q = some o → H' q = some o) : BoxAt H' b c :=
  h.same fun q o e => k q o (ne_of_none e hx) e
def spLaw (K : PySem.W.Frag) : Sp := fun vs H Q _ => ∃ (a : Addr) (ns : List Int), vs = [.ref a] ∧ SqL K H a (ns.map V.int) ∧ ns.length ≤ 63 ∧ ∀ H', Q (.bl true) H'
end Toy
namespace L2
open PySem PySem.Spec PyProof.Rows
/-- what a scope's names become within another block -/
theorem lk_re {env : Env} {x : Str} : ∀ {names : List (Str × NameKind)}, (names.lookup x = some .cell ∨ names.lookup x = some .free) →
    (names.map fun (n, k) => if (k == NameKind.free && env.scope.kind == .function && env.kindOf n == some .cell) then (n, NameKind.cell) else (n, k)).lookup x = some .cell ∨
    (names.map fun (n, k) => if (k == NameKind.free && env.scope.kind == .function && env.kindOf n == some .cell) then (n, NameKind.cell) else (n, k)).lookup x = some .free
  | [], h => by simp at h
  | (n, k) :: r, h => by
    have ih := @lk_re env x r
    simp only [List.map_cons]
    by_cases e : x = n
    · subst e
      have hk : k = .cell ∨ k = .free := by simpa [List.lookup] using h
      by_cases c : (k == NameKind.free && env.scope.kind == .function && env.kindOf x == some .cell) = true
      · rw [if_pos c]
        left
        simp [List.lookup]
      · rw [if_neg c]
        rcases hk with rfl | rfl
        · left; simp [List.lookup]
        · right; simp [List.lookup]
    · have b : (x == n) = false := by simpa using e
      have h' : r.lookup x = some .cell ∨ r.lookup x = some .free := by simpa [List.lookup, b] using h
      have q := ih h'
      by_cases c : (k == NameKind.free && env.scope.kind == .function && env.kindOf n == some .cell) = true
      · rw [if_pos c]
        simpa [List.lookup, b] using q
      · rw [if_neg c]
        simpa [List.lookup, b] using q
theorem blkOk_re {N : List Str} {sc scope : Scope} {env : Env} {own : List (Str × Nat)} (h : blkC N sc scope own = true) : BlkOk N (relabel sc env) scope own := by
  have q := blkOk_by h
  exact ⟨q.kind, q.uniq, q.ix, fun y hy e => lk_re (q.free y hy e), q.own⟩
end L2
namespace Toy
open PySem L2
/-! ### the words below n of which p holds -/
def filt (n : Nat) (p : Nat → Bool) : List Int := ((List.range n).filter p).map fun (i : Nat) => (i : Int)
theorem filt_succ (n : Nat) (p : Nat → Bool) : filt (n + 1) p = if p n = true then filt n p ++ [(n : Int)] else filt n p := by
  unfold filt
  rw [List.range_succ, List.filter_append]
  by_cases h : p n = true
  · rw [if_pos h]
    simp [h]
  · rw [if_neg h]
    simp [h]
theorem filt_yes {n : Nat} {p : Nat → Bool} (h : p n = true) : filt (n + 1) p = filt n p ++ [(n : Int)] := by rw [filt_succ, if_pos h]
theorem filt_no {n : Nat} {p : Nat → Bool} (h : p n = false) : filt (n + 1) p = filt n p := by rw [filt_succ, if_neg (by rw [h]; exact Bool.false_ne_true)]
theorem filt_mem {n : Nat} {p : Nat → Bool} {j : Nat} : ((j : Int) ∈ filt n p) ↔ (j < n ∧ p j = true) := by
  unfold filt
  simp only [List.mem_map, List.mem_filter, List.mem_range]
  constructor
  · rintro ⟨i, h, e⟩
    have : i = j := by omega
    subst this
    exact h
  · exact fun h => ⟨j, h, rfl⟩
theorem filt_len (n : Nat) (p : Nat → Bool) : (filt n p).length ≤ n := by
  unfold filt
  rw [List.length_map]
  exact Nat.le_trans (List.length_filter_le _ _) (by simp)
theorem filt_congr {n : Nat} {p q : Nat → Bool} (h : ∀ j, j < n → p j = q j) : filt n p = filt n q := by
  unfold filt
  congr 1
  exact List.filter_congr fun j hj => h j (List.mem_range.mp hj)
theorem filt_bnd {n : Nat} {p : Nat → Bool} {x : Int} (h : x ∈ filt n p) : ∃ j : Nat, x = (j : Int) ∧ j < n ∧ p j = true := by
  unfold filt at h
  obtain ⟨j, hj, e⟩ := List.mem_map.mp h
  obtain ⟨h1, h2⟩ := List.mem_filter.mp hj
  exact ⟨j, e.symm, List.mem_range.mp h1, h2⟩
theorem filt_can {n : Nat} (p : Nat → Bool) : Can n (filt n p) := by
  show filt n (fun i => decide ((i : Int) ∈ filt n p)) = filt n p
  refine filt_congr fun j hj => ?_
  by_cases c : p j = true
  · rw [c, decide_eq_true (filt_mem.mpr ⟨hj, c⟩)]
  · rw [decide_eq_false fun z => c (filt_mem.mp z).2]
    simpa using c
/-- a row of a table -/
def row (R : List (List Int)) (j : Nat) : List Int := R.getD j []
theorem row_of {R : List (List Int)} {j : Nat} {r : List Int} (h : R[j]? = some r) : row R j = r := by
  unfold row
  rw [List.getD_eq_getElem?_getD, h]
  rfl
theorem at_row {R : List (List Int)} {j : Nat} (h : j < R.length) : R[j]? = some (row R j) := by
  unfold row
  rw [List.getD_eq_getElem?_getD, List.getElem?_eq_getElem h]
  rfl
/-- ~ -/
def inv (R : List (List Int)) : List (List Int) := (List.range R.length).map fun (w : Nat) => filt R.length fun t => decide ((w : Int) ∈ row R t)
theorem inv_len (R : List (List Int)) : (inv R).length = R.length := by unfold inv; simp
theorem inv_row {R : List (List Int)} {j : Nat} (h : j < R.length) : row (inv R) j = filt R.length fun t => decide ((j : Int) ∈ row R t) := by
  refine row_of ?_
  unfold inv
  rw [List.getElem?_map, List.getElem?_range h]
  rfl
theorem rows_ext {A B : List (List Int)} (hl : A.length = B.length) (h : ∀ j, j < A.length → row A j = row B j) : A = B := by
  refine List.ext_getElem? fun j => ?_
  by_cases c : j < A.length
  · rw [at_row c, at_row (by omega), h j c]
  · rw [List.getElem?_eq_none (by omega), List.getElem?_eq_none (by omega)]
def CanR (n : Nat) (R : List (List Int)) : Prop := R.length = n ∧ ∀ r ∈ R, Can n r
theorem CanR.row {n : Nat} {R : List (List Int)} (c : CanR n R) {j : Nat} (h : j < n) : Can n (row R j) := c.2 _ (List.mem_of_getElem? (at_row (by rw [c.1]; exact h)))
theorem inv_can (R : List (List Int)) : CanR R.length (inv R) := by
  refine ⟨inv_len R, fun r hr => ?_⟩
  unfold inv at hr
  obtain ⟨w, _, rfl⟩ := List.mem_map.mp hr
  exact filt_can _
/-- what comes out of each of these words -/
def outEach (W : List (List Int)) (ws : List Int) : List Int := filt W.length fun o => ws.all fun x => decide ((o : Int) ∈ row W x.toNat)
def rsh (F W : List (List Int)) : List (List Int) := (inv F).map fun r => outEach W r
theorem rsh_len (F W : List (List Int)) : (rsh F W).length = F.length := by unfold rsh; rw [List.length_map, inv_len]
theorem rsh_can {F W : List (List Int)} (h : F.length = W.length) : CanR F.length (rsh F W) := by
  refine ⟨rsh_len F W, fun r hr => ?_⟩
  unfold rsh at hr
  obtain ⟨w, _, rfl⟩ := List.mem_map.mp hr
  rw [h]
  exact filt_can _
theorem map_row {R : List (List Int)} {f : List Int → List Int} {j : Nat} (h : j < R.length) : row (R.map f) j = f (row R j) := by
  refine row_of ?_
  rw [List.getElem?_map, at_row h]
  rfl
theorem rsh_row {F W : List (List Int)} {j : Nat} (h : j < F.length) : row (rsh F W) j = outEach W (row (inv F) j) := map_row (by rw [inv_len]; exact h)
end Toy
namespace Toy
open PySem L2
abbrev sChSame : Stmt := top 10
abbrev sInvert : Stmt := inClass sTable 28
abbrev sEach : Stmt := inClass sTable 12
abbrev sRsh : Stmt := inClass sTable 30
theorem rgV_vI (n : Nat) : rgV 0 (n : Int) = vI ((List.range n).map fun (i : Nat) => (i : Int)) := by
  unfold rgV vI
  rw [List.map_map]
  have e : ((n : Int) - 0).toNat = n := by omega
  rw [e]
  refine List.map_congr_left fun i _ => ?_
  show V.int (0 + (i : Int)) = V.int (i : Int)
  rw [Int.zero_add]
theorem all_at {n i : Nat} {x : Int} (h : ((List.range n).map fun (i : Nat) => (i : Int))[i]? = some x) : x = (i : Int) ∧ i < n := by
  rw [List.getElem?_map] at h
  cases e : (List.range n)[i]? with
  | none =>
    rw [e] at h
    cases h
  | some y =>
    rw [e] at h
    have h1 := (List.getElem?_eq_some_iff.mp e).1
    rw [List.length_range] at h1
    rw [List.getElem?_range h1] at e
    cases e
    exact ⟨(Option.some.inj h).symm, h1⟩
theorem RowsL.snoc {G : Hp} {l t : Addr} {o : HO} {ls R r} (h : RowsL G ls R) (nl : ∀ v ∈ ls, v ≠ .ref l) (ht : G t = some (.lst (vI r))) (n : t ≠ l) :
    RowsL (upd G l o) (ls ++ [.ref t]) (R ++ [r]) ∧ ∀ v ∈ ls ++ [V.ref t], v ≠ .ref l := by
  refine ⟨L2.Paired.snoc ⟨t, rfl, by rw [upd_ne n]; exact ht⟩ (PairedIn.map h fun v r hv ⟨t', e, q⟩ => ⟨t', e, ?_⟩), fun v hv => ?_⟩
  · rw [upd_ne fun z => nl v hv (by rw [e, z])]
    exact q
  · rcases List.mem_append.mp hv with hv | hv
    · exact nl v hv
    · rw [List.mem_singleton.mp hv]
      exact fun z => n (V.ref.inj z)
def spChSame (C : Addr) : Sp := fun vs H Q _ => ∃ (p q : Addr) (R W : List (List Int)), vs = [.ref p, .ref q] ∧ Tab C H p R ∧ Tab C H q W ∧ R.length = W.length ∧ Q .non H
def spInvert (C : Addr) : Sp := fun vs H Q _ => ∃ (p : Addr) (R : List (List Int)), vs = [.ref p] ∧ Tab C H p R ∧ ∀ H' x, Same H H' → H x = none → Tab C H' x (inv R) → Q (.ref x) H'
def spEach (C : Addr) : Sp := fun vs H Q _ => ∃ (p o : Addr) (W : List (List Int)) (ws : List Int), vs = [.ref p, .ref o] ∧ Tab C H p W ∧ H o = some (.tup (vI ws)) ∧ ws.length ≤ 6 ∧ (∀ x ∈ ws, 0 ≤ x ∧ x < (W.length : Int)) ∧ ∀ H' d, Same H H' → H d = none → H' d = some (.lst (vI (outEach W ws))) → Q (.ref d) H'
def spSh (C : Addr) (f : List (List Int) → List (List Int) → List (List Int)) : Sp := fun vs H Q _ => ∃ (p q : Addr) (R W : List (List Int)), vs = [.ref p, .ref q] ∧ Tab C H p R ∧ Tab C H q W ∧ R.length = W.length ∧ ∀ H' x, Same H H' → H x = none → Tab C H' x (f R W) → Q (.ref x) H'
section
variable {P : Program} {w : World} {K : PySem.W.Frag} {mg : Str → Option Value} {base : Heap}
theorem scChSame : FnScope ["first", "second"] ["first", "second"] (defScope sChSame) := ⟨rfl, rfl, rfl, by decide +kernel, rfl, by decide +kernel, by decide +kernel⟩
theorem ok_chSame {f C : Addr} {fd : FuncData} (F : Fun K "check_same_size" "check_same_size" sChSame f fd) (T : CT K mg C) : FnOk P w K mg base CX0 1 f fd ["first", "second"] (spChSame C) := by
  refine F.ok scChSame (fun vs H Q E h => ?_) (fun cdv A outer s H vs Q E hr h => ?_)
  · obtain ⟨p, q, R, W, rfl, _⟩ := h
    rfl
  · obtain ⟨p, q, R, W, rfl, hT, hT2, e, k⟩ := h
    obtain ⟨dx, tr, tp, ts, qs, h1, _⟩ := id hT
    obtain ⟨dx2, tr2, tp2, ts2, qs2, h2, _⟩ := id hT2
    refine ⟨_, pss_one (ps_if (pt_cmpR op_ne (pe_fld (pv 0) rfl) (pe_fld (pv 1) rfl) (nomark _)) (pss_one ps_never) pss_nil), ?_⟩
    exact ⟨_, rfl, p, C, dx, _, _, rfl, h1, T.cl, T.nS, tf_size _ _ _, _, rfl, q, C, dx2, _, _, rfl, h2, T.cl, T.nS, tf_size _ _ _, rfl, _, rfl, iteNS (by rw [e]) k⟩
theorem scInvert : FnScope ["self", "words", "told", "word"] ["self"] (defScope sInvert) := ⟨rfl, rfl, rfl, by decide +kernel, rfl, by decide +kernel, by decide +kernel⟩
theorem ok_invert {f n C : Addr} {fd fdn : FuncData} (F : Fun K "__invert__" "Table.__invert__" sInvert f fd) (S : Gs K mg C) (N : Fun K "__init__" "Table.__init__" sInit n fdn) (M : Mk K C n) (bN : Binds K fdn ["self", "rows"] []) :
    FnOk P w K mg base CX0 5 f fd ["self"] (spInvert C) := by
  have B := S.B
  refine F.ok scInvert (fun vs H Q E h => ?_) (fun cdv A outer s H vs Q E hr h => ?_)
  · obtain ⟨p, R, rfl, _⟩ := h
    rfl
  · obtain ⟨p, R, rfl, hT, k⟩ := h
    obtain ⟨dx, tr, tp, ts, qs, h1, h2, h3, h4, h5, h6, h7, h8, h9⟩ := id hT
    refine ⟨_, pss_cons (ps_set (i := 1) scInvert.nd rfl (Or.inr rfl) (pe_listRg rfl (by rfl) B.list (prg_1 (by rfl) B.range (pe_fld (pv 0) rfl))))
      (pss_one (ps_ret (pe_make M (ok_init N S) hr rfl S.T.mgC bN .nil pass0 (pa_cons
        (pe_lc (own := [("word", 3)]) (g := gName 3) (tt := tYes) (te := tLc (iList K (tVar 1)) (gName 2) (tTest (tOp (rIn K false) (tVar 3) (tOp (rIxT K) (tFld K (tVar 0) "_rows") (tVar 2)))) (tVar 2) [2]) rfl scInvert.nd (pi_list (pv 1)) (blkOk_by (own := [("word", 3)]) (N := ["self", "words", "told", "word"]) (sc := defScope sInvert) (by decide +kernel))
          (fun _ _ _ _ _ => pg_name (i := 3) scInvert.nd rfl (Or.inr rfl)) (fun _ _ _ _ _ => pts_nil)
          (fun _ _ _ _ _ => pe_lc (own := [("told", 2)]) (g := gName 2) (tt := tTest (tOp (rIn K false) (tVar 3) (tOp (rIxT K) (tFld K (tVar 0) "_rows") (tVar 2)))) rfl scInvert.nd (pi_list (pv 1)) (blkOk_re (N := ["self", "words", "told", "word"]) (by decide +kernel))
            (fun _ _ _ _ _ => pg_name (i := 2) scInvert.nd rfl (Or.inl rfl)) (fun _ _ _ _ _ => pts_one (pt_cmpR op_in_seq (pv 3) (pe_ix ix_tup (pe_fld (pv 0) rfl) (pv 2) (fun _ _ => rfl)) (by rfl))) (fun _ _ _ _ _ => pv 2))) pa_nil)))), ?_⟩
    have h6' : (R.length : Int) ≤ 16777216 := by omega
    refine ⟨_, rfl, p, C, dx, _, _, rfl, h1, S.T.cl, S.T.nS, tf_size _ _ _, _, rfl, RgOk.of_le (by omega) (by omega) (by omega) (by omega), fun q hq => ?_⟩
    rw [rgV_vI]
    have s0 := Same.new (H := H) (o := .lst (vI ((List.range R.length).map fun (i : Nat) => (i : Int)))) hq
    have hq0 : upd H q (.lst (vI ((List.range R.length).map fun (i : Nat) => (i : Int)))) q = some (.lst (vI ((List.range R.length).map fun (i : Nat) => (i : Int)))) := upd_same
    generalize upd H q (.lst (vI ((List.range R.length).map fun (i : Nat) => (i : Int)))) = H1 at s0 hq0
    have lq : (vI ((List.range R.length).map fun (i : Nat) => (i : Int))).length = R.length := by rw [vI_len, List.length_map, List.length_range]
    refine ⟨_, rfl, q, rfl, ⟨_, SqL.of hq0⟩, fun D hD => ?_⟩
    refine lc_list (K := K) (a := q) (xs := vI ((List.range R.length).map fun (i : Nat) => (i : Int))) (fun i H' => Same H1 H' ∧ ∃ ks, H' D = some (.lst ks) ∧ RowsL H' ks ((inv R).take i) ∧ ∀ v ∈ ks, v ≠ .ref D) ⟨Same.new hD, [], upd_same, .nil, fun _ h => by cases h⟩ (fun i H' _ ⟨s, _⟩ => SqL.of (s _ _ hq0)) ?_ ?_
    · rintro i y H2 hi ⟨s2, ks, hk, hKs, nD⟩
      obtain ⟨xi, hxi, rfl⟩ := vI_at hi
      obtain ⟨rfl, hin⟩ := all_at hxi
      refine ⟨rfl, yesT (iteT ?_)⟩
      refine ⟨_, rfl, q, rfl, ⟨_, SqL.of (s2 _ _ hq0)⟩, fun D2 hD2 => ?_⟩
      refine lc_list (K := K) (a := q) (xs := vI ((List.range R.length).map fun (i : Nat) => (i : Int))) (fun j H' => Same H2 H' ∧ H' D2 = some (.lst (vI (filt j fun t => decide ((i : Int) ∈ row R t))))) ⟨Same.new hD2, upd_same⟩ (fun j H' _ ⟨s, _⟩ => SqL.of ((s2.trans s) _ _ hq0)) ?_ ?_
      · rintro j y H3 hj ⟨s3, hd3⟩
        obtain ⟨xj, hxj, rfl⟩ := vI_at hj
        obtain ⟨rfl, hjn⟩ := all_at hxj
        have sH := s0.trans (s2.trans s3)
        obtain ⟨v, hv, t, rfl, ht⟩ := L2.Paired.at2 (RowsT.same sH h4) (at_row hjn)
        refine ⟨rfl, ?_⟩
        refine ⟨_, rfl, _, rfl, p, C, dx, _, _, rfl, sH _ _ h1, S.T.cl, S.T.nR, tf_rows _ _ _, _, rfl, tr, ts, (j : Int), _, rfl, rfl, SqT.of (sH _ _ h3), atI_nat hv, t, _, rfl, .inr (SqT.of ht), rfl, flat_vI _, _, rfl, ?_⟩
        show if (if false = true then !inV (.int (i : Int)) (vI (row R j)) else inV (.int (i : Int)) (vI (row R j))) = true then _ else _
        rw [if_neg Bool.false_ne_true, inV_vI]
        by_cases hm : (i : Int) ∈ row R j
        · rw [decide_eq_true hm]
          refine iteT ?_
          refine ⟨_, rfl, _, hd3, ?_, Same.updN s3 hD2, ?_⟩
          · rw [vI_len]
            exact Nat.lt_of_le_of_lt (Nat.le_trans (filt_len _ _) (by omega : j ≤ 6)) (by decide)
          · rw [upd_same, filt_yes (decide_eq_true hm)]
            unfold vI
            rw [List.map_append]
            rfl
        · rw [decide_eq_false hm]
          refine iteF ⟨s3, ?_⟩
          rw [filt_no (decide_eq_false hm)]
          exact hd3
      · rintro H3 ⟨s3, hd3⟩
        rw [lq] at hd3
        have nD2 : D2 ≠ D := (ne_of_none hk hD2).symm
        obtain ⟨z1, z2⟩ := RowsL.snoc (o := .lst (ks ++ [.ref D2])) (RowsL.same s3 hKs) nD hd3 nD2
        refine ⟨ks, s3 _ _ hk, ?_, Same.updN (s2.trans s3) hD, ks ++ [.ref D2], upd_same, ?_, z2⟩
        · rw [Paired.length hKs]
          refine Nat.lt_of_le_of_lt (Nat.le_trans (List.length_take_le' _ _) (?_ : _ ≤ 6)) (by decide)
          rw [inv_len]
          exact h8
        · have e : (inv R)[i]? = some (filt R.length fun t => decide ((i : Int) ∈ row R t)) := by
            rw [at_row (by rw [inv_len]; exact hin), inv_row hin]
          rw [take_more e]
          exact z1
    · rintro H2 ⟨s2, ks, hk, hKs, nD⟩
      rw [lq] at hKs
      have ek : (inv R).take R.length = inv R := List.take_of_length_le (by rw [inv_len]; exact Nat.le_refl _)
      rw [ek] at hKs
      have hC := inv_can R
      refine fun x dx2 hx hdx ndx => ?_
      have s6 : Same H2 (upd (upd H2 dx2 (.own x)) x (.ins C dx2 [])) := Same.upd (Same.new hdx) (by rw [upd_ne ndx.symm]; exact hx)
      refine ⟨x, dx2, D, ks, inv R, rfl, upd_same, by rw [upd_ne ndx]; exact upd_same, s6 _ _ hk, RowsL.same s6 hKs, by rw [inv_len]; omega, by rw [inv_len]; omega, by rw [inv_len]; exact can_all hC.2 h8, fun H3 k3 hT3 => ⟨rfl, ?_⟩⟩
      rw [inv_len, same_rows hC.2] at hT3
      have s13 := s0.trans s2
      exact k H3 x (fun q o e => k3 q o (ne_of_none (s13 _ _ e) hx) (s6 _ _ (s13 _ _ e))) (s13.free hx) hT3
end
end Toy
namespace Toy
open PySem L2
theorem tf_each' (n : Nat) (tr tp : Addr) : (tf n tr tp).lookup ("_out_of_each" : Str) = none := tf_no _ _ _ (by decide +kernel) (by decide +kernel) (by decide +kernel)
section
variable {P : Program} {w : World} {K : PySem.W.Frag} {mg : Str → Option Value} {base : Heap}
theorem scEach : FnScope ["self", "words", "out", "word"] ["self", "words"] (defScope sEach) := ⟨rfl, rfl, rfl, by decide +kernel, rfl, by decide +kernel, by decide +kernel⟩
theorem ok_each {f C : Addr} {fd : FuncData} (F : Fun K "_out_of_each" "Table._out_of_each" sEach f fd) (S : Gs K mg C) : FnOk P w K mg base CX0 1 f fd ["self", "words"] (spEach C) := by
  have B := S.B
  refine F.ok scEach (fun vs H Q E h => ?_) (fun cdv A outer s H vs Q E hr h => ?_)
  · obtain ⟨p, o, W, ws, rfl, _⟩ := h
    rfl
  · obtain ⟨p, o, W, ws, rfl, hT, ho, w6, hw, k⟩ := h
    obtain ⟨dx, tr, tp, ts, qs, h1, h2, h3, h4, h5, h6, h7, h8, h9⟩ := id hT
    refine ⟨_, pss_one (ps_ret (pe_lc (own := [("out", 2)]) (g := gName 2) (tt := tB (tCB (rAll K) (tCons (tLc (iTup K (tVar 1)) (gName 3) tYes (tOp (rIn K false) (tVar 2) (tOp (rIxT K) (tFld K (tVar 0) "_rows") (tVar 3))) [3]) tNil))) rfl scEach.nd
        (pi_range1 (by rfl) B.range (pa_cons (pe_fld (pv 0) rfl) pa_nil)) (blkOk_by (own := [("out", 2)]) (N := ["self", "words", "out", "word"]) (sc := defScope sEach) (by decide +kernel))
        (fun _ _ _ _ _ => pg_name (i := 2) scEach.nd rfl (Or.inr rfl))
        (fun _ _ _ _ _ => pts_one (pt_val (pe_callB (cr_all rfl) (by rfl) B.all (by decide +kernel) (pa_cons
          (pe_lc (own := [("word", 3)]) (g := gName 3) (tt := tYes) (te := tOp (rIn K false) (tVar 2) (tOp (rIxT K) (tFld K (tVar 0) "_rows") (tVar 3))) rfl scEach.nd (pi_tup (pv 1)) (blkOk_re (N := ["self", "words", "out", "word"]) (by decide +kernel))
            (fun _ _ _ _ _ => pg_name (i := 3) scEach.nd rfl (Or.inl rfl)) (fun _ _ _ _ _ => pts_nil) (fun _ _ _ _ _ => pe_cmpR op_in_seq (pv 2) (pe_ix ix_tup (pe_fld (pv 0) rfl) (pv 3) (fun _ _ => rfl)) (by rfl))) pa_nil))))
        (fun _ _ _ _ _ => pv 2))), ?_⟩
    refine ⟨_, rfl, p, C, dx, _, _, rfl, h1, S.T.cl, S.T.nS, tf_size _ _ _, _, rfl, by omega, by omega, fun D hD => ?_⟩
    refine lc_range (lo := 0) (n := W.length) (fun i H' => Same H H' ∧ H' D = some (.lst (vI (filt i fun o => ws.all fun x => decide ((o : Int) ∈ row W x.toNat))))) ⟨Same.new hD, upd_same⟩ ?_ ?_
    · rintro i H1 hi ⟨s1, hd⟩
      have e0 : (0 : Int) + (i : Int) = (i : Int) := Int.zero_add _
      rw [e0]
      refine ⟨rfl, ?_⟩
      refine ⟨_, rfl, o, rfl, ⟨_, SqT.of (s1 _ _ ho)⟩, fun D2 hD2 => ?_⟩
      refine lc_tup (K := K) (a := o) (xs := vI ws) (fun j H' => Same H1 H' ∧ H' D2 = some (.lst ((ws.take j).map fun x => V.bl (decide ((i : Int) ∈ row W x.toNat))))) ⟨Same.new hD2, upd_same⟩ (fun j H' _ ⟨s, _⟩ => SqT.of ((s1.trans s) _ _ ho)) ?_ ?_
      · rintro j y H2 hj ⟨s2, hd2⟩
        obtain ⟨x, hx, rfl⟩ := vI_at hj
        have sH := s1.trans s2
        obtain ⟨x0, x1⟩ := hw x (List.mem_of_getElem? hx)
        obtain ⟨m, rfl⟩ := Int.eq_ofNat_of_zero_le x0
        have hm : m < W.length := by omega
        obtain ⟨v, hv, t, rfl, ht⟩ := L2.Paired.at2 (RowsT.same sH h4) (at_row hm)
        refine ⟨rfl, yesT (iteT ?_)⟩
        refine ⟨_, rfl, _, rfl, p, C, dx, _, _, rfl, sH _ _ h1, S.T.cl, S.T.nR, tf_rows _ _ _, _, rfl, tr, ts, (m : Int), _, rfl, rfl, SqT.of (sH _ _ h3), atI_nat hv, t, _, rfl, .inr (SqT.of ht), rfl, flat_vI _, ?_⟩
        refine ⟨_, hd2, ?_, Same.updN s2 hD2, ?_⟩
        · rw [List.length_map]
          exact Nat.lt_of_le_of_lt (Nat.le_trans (List.length_take_le' _ _) w6) (by decide)
        · rw [upd_same, take_more hx, List.map_append]
          show some (HO.lst (_ ++ [V.bl (if false = true then !inV (.int (i : Int)) (vI (row W m)) else inV (.int (i : Int)) (vI (row W m)))])) = _
          rw [if_neg Bool.false_ne_true, inV_vI]
          rfl
      · rintro H2 ⟨s2, hd2⟩
        rw [vI_len, List.take_length] at hd2
        refine ⟨D2, ws.map (fun x => decide ((i : Int) ∈ row W x.toNat)), rfl, SqL.of (by rw [hd2, List.map_map]; rfl), _, rfl, ?_⟩
        have ea : (ws.map (fun x => decide ((i : Int) ∈ row W x.toNat))).all id = ws.all fun x => decide ((i : Int) ∈ row W x.toNat) := by rw [List.all_map]; rfl
        rw [ea]
        have hd3 := s2 _ _ hd
        by_cases hm : (ws.all fun x => decide ((i : Int) ∈ row W x.toNat)) = true
        · rw [hm]
          refine iteT ?_
          refine ⟨_, rfl, _, hd3, ?_, Same.updN (s1.trans s2) hD, ?_⟩
          · rw [vI_len]
            exact Nat.lt_of_le_of_lt (Nat.le_trans (filt_len _ _) (by omega : i ≤ 6)) (by decide)
          · rw [upd_same, filt_yes hm]
            unfold vI
            rw [List.map_append]
            rfl
        · have hm' : (ws.all fun x => decide ((i : Int) ∈ row W x.toNat)) = false := by simpa using hm
          rw [hm']
          refine iteF ⟨s1.trans s2, ?_⟩
          rw [filt_no hm']
          exact hd3
    · rintro H1 ⟨s1, hd⟩
      exact k H1 D s1 hD hd
end
end Toy
namespace Toy
open PySem L2
section
variable {P : Program} {w : World} {K : PySem.W.Frag} {mg : Str → Option Value} {base : Heap}
theorem scRsh : FnScope ["self", "other", "leading", "row"] ["self", "other"] (defScope sRsh) := ⟨rfl, rfl, rfl, by decide +kernel, rfl, by decide +kernel, by decide +kernel⟩
theorem ok_Rsh {f n g c C : Addr} {fd fdn fdg fdc : FuncData} (F : Fun K "__rshift__" "Table.__rshift__" sRsh f fd) (S : Gs K mg C) (N : Fun K "__init__" "Table.__init__" sInit n fdn) (M : Mk K C n) (bN : Binds K fdn ["self", "rows"] [])
    (G : Fun K "_out_of_each" "Table._out_of_each" sEach g fdg) (mG : Meth K C "_out_of_each" g) (bG : Binds K fdg ["self", "words"] []) (Z : Fun K "check_same_size" "check_same_size" sChSame c fdc) (mZ : mg "check_same_size" = some (.ref c)) (bZ : Binds K fdc ["first", "second"] [])
    {j : Addr} {fdj : FuncData} (J : Fun K "__invert__" "Table.__invert__" sInvert j fdj) (mJ : PySem.W.findIn K (.ref C) "__invert__" = some (some (.ref j))) (mJ2 : PySem.W.isFn K (.ref j) = true) (bJ : Binds K fdj ["self"] []) :
    FnOk P w K mg base CX0 6 f fd ["self", "other"] (spSh C rsh) := by
  have B := S.B
  refine F.ok scRsh (fun vs H Q E h => ?_) (fun cdv A outer s H vs Q E hr h => ?_)
  · obtain ⟨p, q, R, W, rfl, _⟩ := h
    rfl
  · obtain ⟨p, q, R, W, rfl, hT, hT2, eRW, k⟩ := h
    have hr1 : Room 1 _ := hr.mono (by decide)
    have hr4 : Room 4 _ := hr.mono (by decide)
    refine ⟨_, pss_cons (ps_expr (pe_call (ok_chSame Z S.T) hr1 rfl mZ Z.kp bZ .nil pass0 (pa_cons (pv 0) (pa_cons (pv 1) pa_nil))))
      (pss_cons (ps_set (i := 2) scRsh.nd rfl (Or.inl rfl) (pe_un (un_own (ok_invert J S N M bN) hr bJ pass0 mJ mJ2) (pv 0)))
      (pss_one (ps_ret (pe_make M (ok_init N S) hr4 rfl S.T.mgC bN .nil pass0 (pa_cons
        (pe_lc (own := [("row", 3)]) (g := gName 3) (tt := tYes) (te := tMeth C "_out_of_each" (spEach C) [] E0 (tVar 1) (tCons (tVar 3) tNil)) rfl scRsh.nd (pi_tup (pe_fld (pv 2) rfl)) (blkOk_by (own := [("row", 3)]) (N := ["self", "other", "leading", "row"]) (sc := defScope sRsh) (by decide +kernel))
          (fun _ _ _ _ _ => pg_name (i := 3) scRsh.nd rfl (Or.inl rfl)) (fun _ _ _ _ _ => pts_nil) (fun _ _ _ _ _ => pe_meth (pv 1) S.T.cl mG (ok_each G S) hr1 bG .nil pass0 (pa_cons (pv 3) pa_nil))) pa_nil))))), ?_⟩
    refine ⟨_, rfl, _, rfl, p, q, R, W, rfl, hT, hT2, eRW, ?_⟩
    obtain ⟨dxp, trp, tpp, tsp, qsp, e1, _⟩ := id hT
    refine ⟨_, rfl, p, dxp, _, rfl, e1, p, R, rfl, hT, fun Hx px sx px0 hTx => ?_⟩
    have hTq := hT2.same sx
    obtain ⟨Rx, hRx⟩ : ∃ Rx, Rx = inv R := ⟨_, rfl⟩
    rw [← hRx] at hTx
    have lRx : Rx.length = R.length := by rw [hRx, inv_len]
    obtain ⟨dx, tr, tp, ts, qs, h1, h2, h3, h4, h5, h6, h7, h8, h9⟩ := id hTx
    obtain ⟨dxq, trq, tpq, tsq, qsq, g1, _⟩ := id hTq
    refine ⟨_, rfl, px, C, dx, _, _, rfl, h1, S.T.cl, S.T.nR, tf_rows _ _ _, tr, rfl, ⟨_, SqT.of h3⟩, fun D hD => ?_⟩
    refine lc_tup (K := K) (a := tr) (xs := ts) (fun i H' => Same Hx H' ∧ ∃ ks, H' D = some (.lst ks) ∧ RowsL H' ks ((rsh R W).take i) ∧ ∀ v ∈ ks, v ≠ .ref D) ⟨Same.new hD, [], upd_same, .nil, fun _ h => by cases h⟩ (fun i H' _ ⟨s, _⟩ => SqT.of (s _ _ h3)) ?_ ?_
    · rintro i y H2 hi ⟨s2, ks, hk, hKs, nD⟩
      obtain ⟨r, hr0, t, rfl, ht⟩ := L2.Paired.at (RowsT.same s2 h4) hi
      have hi' : i < Rx.length := (List.getElem?_eq_some_iff.mp hr0).1
      refine ⟨rfl, yesT (iteT ?_)⟩
      refine ⟨_, rfl, q, dxq, _, rfl, s2 _ _ g1, tf_each' _ _ _, _, rfl, q, t, W, r, rfl, hTq.same s2, ht, by have := h9 r (List.mem_of_getElem? hr0); exact this, (fun x hx => by
        have hc := (inv_can R).2 r (by rw [← hRx]; exact List.mem_of_getElem? hr0)
        have := hc.mem hx
        omega), fun H3 d s3 d0 hd => ?_⟩
      have nDd : d ≠ D := (ne_of_none hk d0).symm
      obtain ⟨z1, z2⟩ := RowsL.snoc (o := .lst (ks ++ [.ref d])) (RowsL.same s3 hKs) nD hd nDd
      refine ⟨ks, s3 _ _ hk, ?_, Same.updN (s2.trans s3) hD, ks ++ [.ref d], upd_same, ?_, z2⟩
      · rw [Paired.length hKs]
        refine Nat.lt_of_le_of_lt (Nat.le_trans (List.length_take_le' _ _) (?_ : _ ≤ 6)) (by decide)
        rw [rsh_len]
        omega
      · have e : (rsh R W)[i]? = some (outEach W r) := by
          rw [at_row (by rw [rsh_len]; omega), rsh_row (by omega), ← hRx, row_of hr0]
        rw [take_more e]
        exact z1
    · rintro H2 ⟨s2, ks, hk, hKs, nD⟩
      have lt : ts.length = Rx.length := Paired.length h4
      have ek : (rsh R W).take ts.length = rsh R W := List.take_of_length_le (by rw [rsh_len]; omega)
      rw [ek] at hKs
      have hC := rsh_can eRW
      refine fun x dx2 hx hdx ndx => ?_
      have s6 : Same H2 (upd (upd H2 dx2 (.own x)) x (.ins C dx2 [])) := Same.upd (Same.new hdx) (by rw [upd_ne ndx.symm]; exact hx)
      refine ⟨x, dx2, D, ks, rsh R W, rfl, upd_same, by rw [upd_ne ndx]; exact upd_same, s6 _ _ hk, RowsL.same s6 hKs, by rw [rsh_len]; omega, by rw [rsh_len]; omega, by rw [rsh_len]; exact can_all hC.2 (by omega), fun H3 k3 hT3 => ⟨rfl, ?_⟩⟩
      rw [rsh_len, same_rows hC.2] at hT3
      have s13 := sx.trans s2
      exact k H3 x (fun q o e => k3 q o (ne_of_none (s13 _ _ e) hx) (s6 _ _ (s13 _ _ e))) (s13.free hx) hT3
end
end Toy
namespace Toy
open PySem L2
/-- what list(x) asks -/
abbrev rLst (K : PySem.W.Frag) : List V → Hp → VK → Prop := fun xs H Q => ∃ p ys, xs = [.ref p] ∧ (SqL K H p ys ∨ SqT K H p ys) ∧ ∀ l, H l = none → Q (.ref l) (upd H l (.lst ys))
/-- the loop of [list(row) for row in rows] -/
theorem copies {K : PySem.W.Frag} {σ : St} {H1 : Hp} {D l : Addr} {i : Nat} {ls : List V} {R : List (List Int)} {Qd : Hp → Prop} (hσ : i < σ.length) (hD : H1 D = none) (hl : H1 l = some (.lst ls)) (hR : RowsL H1 ls R) (h6 : R.length ≤ 6)
    (hd : ∀ H' ks, Same H1 H' → H' D = some (.lst ks) → RowsL H' ks R → Qd H') :
    ∃ W : Nat → Nat → Hp → Prop, (∃ m, W 0 m (upd H1 D (.lst []))) ∧ ∀ j m H, W j m H →
      ((Itl K l).stop j H ∧ Qd H) ∨ ((Itl K l).go j H ∧ ∃ Nx : Hp → Prop, (∀ H', Nx H' → ∃ m', m' < m ∧ W (j + 1) m' H') ∧ ∀ x H', (Itl K l).yld j H x H' → gName i x (wipe σ [i]) H' fun σ2 H2 => wipe σ2 [i] = wipe σ [i] ∧ tYes σ2 H2 fun b H3 =>
        if b = true then tCB (rLst K) (tCons (tVar i) tNil) σ2 H3 fun y H4 => ∃ acc, H4 D = some (.lst acc) ∧ acc.length < sizeLine ∧ Nx (upd H4 D (.lst (acc ++ [y]))) else Nx H3) := by
  have eL : ls.length = R.length := Paired.length hR
  refine lc_list (K := K) (a := l) (xs := ls) (fun i H' => Same H1 H' ∧ ∃ ks, H' D = some (.lst ks) ∧ RowsL H' ks (R.take i) ∧ ∀ v ∈ ks, v ≠ .ref D) ⟨Same.new hD, [], upd_same, .nil, fun _ h => by cases h⟩ (fun i H' _ ⟨s, _⟩ => SqL.of (s _ _ hl)) ?_ ?_
  · rintro j y H5 hi ⟨s5, ks, hk, hKs, nD2⟩
    obtain ⟨g, hg, t, rfl, ht⟩ := L2.Paired.at (RowsL.same s5 hR) hi
    refine ⟨?_, yesT (iteT ?_)⟩
    · show ((σ.set i none).set i (some (V.ref t))).set i none = σ.set i none
      rw [List.set_set, List.set_set]
    have e : ((σ.set i none).set i (some (V.ref t)))[i]? = some (some (V.ref t)) := by
      rw [List.getElem?_set_self (by rw [List.length_set]; exact hσ)]
    refine ⟨_, e, t, _, rfl, .inl (SqL.of ht), fun u hu => ?_⟩
    have nDu : u ≠ D := (ne_of_none hk hu).symm
    have s6 := Same.new (H := H5) (o := .lst (vI g)) hu
    obtain ⟨z1, z2⟩ := RowsL.snoc (o := .lst (ks ++ [.ref u])) (RowsL.same s6 hKs) nD2 upd_same nDu
    refine ⟨ks, s6 _ _ hk, ?_, Same.updN (s5.trans s6) hD, ks ++ [.ref u], upd_same, ?_, z2⟩
    · rw [Paired.length hKs]
      exact Nat.lt_of_le_of_lt (Nat.le_trans (List.length_take_le' _ _) h6) (by decide)
    · rw [take_more hg]
      exact z1
  · rintro H5 ⟨s5, ks, hk, hKs, nD2⟩
    rw [eL, List.take_length] at hKs
    exact hd H5 ks s5 hk hKs
/-- Table(rows), the rows canonical -/
theorem init_of {K : PySem.W.Frag} {C D : Addr} {H5 : Hp} {ks : List V} {R : List (List Int)} {n : Nat} {E : XK} {Z : Addr → Hp → Prop} (hk : H5 D = some (.lst ks)) (hKs : RowsL H5 ks R) (c : CanR n R) (n1 : 1 ≤ n) (n6 : n ≤ 6)
    (hz : ∀ H6 x, Same H5 H6 → H5 x = none → Tab C H6 x R → Z x H6) : ∀ x dx, H5 x = none → H5 dx = none → dx ≠ x → spInit K C (.ref x :: ([.ref D] ++ [])) (upd (upd H5 dx (.own x)) x (.ins C dx [])) (fun v H2 => v = .non ∧ Z x H2) E := by
  intro x dx hx hdx ndx
  have s6 : Same H5 (upd (upd H5 dx (.own x)) x (.ins C dx [])) := Same.upd (Same.new hdx) (by rw [upd_ne ndx.symm]; exact hx)
  have cl := c.1
  refine ⟨x, dx, D, ks, R, rfl, upd_same, by rw [upd_ne ndx]; exact upd_same, s6 _ _ hk, RowsL.same s6 hKs, by omega, by omega, by rw [cl]; exact can_all c.2 n6, fun H6 k6 hT => ⟨rfl, ?_⟩⟩
  rw [cl, same_rows c.2] at hT
  exact hz H6 x (fun q o e => k6 q o (ne_of_none e hx) (s6 _ _ e)) hx hT
end Toy
namespace Toy
open PySem L2
abbrev sOutSome : Stmt := inClass sTable 11
abbrev sMul : Stmt := inClass sTable 29
/-! ### the mathematics -/
def cat (R : List (List Int)) (ws : List Int) : List Int := ws.flatMap fun x => row R x.toNat
theorem cat_snoc (R : List (List Int)) (ws : List Int) (x : Int) : cat R (ws ++ [x]) = cat R ws ++ row R x.toNat := by
  unfold cat
  rw [List.flatMap_append]
  simp
theorem row_len {R : List (List Int)} (h : ∀ r ∈ R, r.length ≤ 6) (j : Nat) : (row R j).length ≤ 6 := by
  unfold row
  rw [List.getD_eq_getElem?_getD]
  cases e : R[j]? with
  | none => simp
  | some y => simpa using h y (List.mem_of_getElem? e)
theorem cat_len {R : List (List Int)} (h : ∀ r ∈ R, r.length ≤ 6) : ∀ ws : List Int, (cat R ws).length ≤ 6 * ws.length
  | [] => by simp [cat]
  | x :: r => by
    have ih := cat_len h r
    show (row R x.toNat ++ cat R r).length ≤ _
    rw [List.length_append, List.length_cons]
    have := row_len h x.toNat
    omega
theorem cat_mem {R : List (List Int)} {ws : List Int} {y : Int} : y ∈ cat R ws ↔ ∃ x ∈ ws, y ∈ row R x.toNat := by
  unfold cat
  rw [List.mem_flatMap]
def mul (F X : List (List Int)) : List (List Int) := F.map fun r => asc (cat X r) X.length
theorem mul_len (F X : List (List Int)) : (mul F X).length = F.length := by unfold mul; rw [List.length_map]
theorem asc_can {n : Nat} (ws : List Int) : Can n (asc ws n) := filt_can _
theorem asc_iff {n : Nat} {ws : List Int} {j : Nat} : (j : Int) ∈ asc ws n ↔ (j < n ∧ (j : Int) ∈ ws) := by
  have h := filt_mem (n := n) (p := fun i => decide ((i : Int) ∈ ws)) (j := j)
  rw [decide_eq_true_iff] at h
  exact h
theorem mul_can {F X : List (List Int)} (h : F.length = X.length) : CanR F.length (mul F X) := by
  refine ⟨mul_len F X, fun r hr => ?_⟩
  unfold mul at hr
  obtain ⟨w, _, rfl⟩ := List.mem_map.mp hr
  rw [h]
  exact asc_can _
theorem mul_row {F X : List (List Int)} {j : Nat} (h : j < F.length) : row (mul F X) j = asc (cat X (row F j)) X.length := map_row h
theorem prs_mem : ∀ {k : Nat} {R : List (List Int)} {p : Int × Int}, p ∈ prs k R ↔ ∃ j : Nat, j < R.length ∧ p.1 = ((k + j : Nat) : Int) ∧ p.2 ∈ row R j
  | k, [], p => by simp [prs]
  | k, r :: R, p => by
    rw [show prs k (r :: R) = r.map (fun x => ((k : Int), x)) ++ prs (k + 1) R from rfl, List.mem_append, prs_mem (k := k + 1)]
    constructor
    · rintro (h | ⟨j, h1, h2, h3⟩)
      · obtain ⟨x, hx, rfl⟩ := List.mem_map.mp h
        exact ⟨0, by simp, by simp, by rw [row_of (r := r) rfl]; exact hx⟩
      · refine ⟨j + 1, by simp; omega, by rw [h2]; congr 1; omega, ?_⟩
        have e : row (r :: R) (j + 1) = row R j := by unfold row; simp
        rw [e]
        exact h3
    · rintro ⟨j, h1, h2, h3⟩
      cases j with
      | zero =>
        left
        rw [row_of (r := r) rfl] at h3
        exact List.mem_map.mpr ⟨p.2, h3, by rw [Nat.add_zero] at h2; rw [← h2]⟩
      | succ j =>
        right
        have e : row (r :: R) (j + 1) = row R j := by unfold row; simp
        rw [e] at h3
        exact ⟨j, by simp at h1; omega, by rw [h2]; congr 1; omega, h3⟩
def le (R W : List (List Int)) : Bool := (prs 0 R).all fun p => decide (p ∈ prs 0 W)
theorem le_iff {n : Nat} {R W : List (List Int)} (hR : R.length = n) (hW : W.length = n) : le R W = true ↔ ∀ j, j < n → ∀ x ∈ row R j, x ∈ row W j := by
  unfold le
  rw [List.all_eq_true]
  constructor
  · intro h j hj x hx
    have q := of_decide_eq_true (h ((j : Int), x) (prs_mem.mpr ⟨j, by omega, by simp, hx⟩))
    obtain ⟨i, hi, e, hx'⟩ := prs_mem.mp q
    have : i = j := by
      have : ((j : Nat) : Int) = ((0 + i : Nat) : Int) := e
      omega
    subst this
    exact hx'
  · intro h p hp
    obtain ⟨j, hj, e, hx⟩ := prs_mem.mp hp
    exact decide_eq_true (prs_mem.mpr ⟨j, by omega, e, h j (by omega) _ hx⟩)
/-- the three questions are one -/
theorem le_rsh {n : Nat} {F X W : List (List Int)} (cF : CanR n F) (cX : CanR n X) (cW : CanR n W) : le X (rsh F W) = le (mul F X) W := by
  have lF := cF.1
  have lX := cX.1
  have lW := cW.1
  rw [Bool.eq_iff_iff, le_iff lX (by rw [rsh_len]; exact lF), le_iff (by rw [mul_len]; exact lF) lW]
  constructor
  · intro h j hj x hx
    rw [mul_row (by omega)] at hx
    obtain ⟨hx0, x0, x1⟩ := asc_mem hx
    obtain ⟨y, hy, hxy⟩ := cat_mem.mp hx0
    obtain ⟨y0, y1⟩ := (cF.row hj).mem hy
    obtain ⟨m, rfl⟩ := Int.eq_ofNat_of_zero_le y0
    have q := h m (by omega) x hxy
    rw [rsh_row (by omega)] at q
    obtain ⟨o, rfl⟩ := Int.eq_ofNat_of_zero_le x0
    have q2 := (filt_mem.mp q).2
    rw [List.all_eq_true] at q2
    have q3 := q2 (j : Int) (by rw [inv_row (by omega)]; exact filt_mem.mpr ⟨by omega, decide_eq_true hy⟩)
    exact of_decide_eq_true q3
  · intro h m hm x hx
    rw [rsh_row (by omega)]
    obtain ⟨x0, x1⟩ := (cX.row hm).mem hx
    obtain ⟨o, rfl⟩ := Int.eq_ofNat_of_zero_le x0
    refine filt_mem.mpr ⟨by omega, List.all_eq_true.mpr fun t ht => ?_⟩
    rw [inv_row (by omega)] at ht
    obtain ⟨j, rfl, hj, pj⟩ := filt_bnd ht
    refine decide_eq_true (h j (by omega) _ ?_)
    rw [mul_row (by omega)]
    exact asc_iff.mpr ⟨by omega, cat_mem.mpr ⟨(m : Int), of_decide_eq_true pj, hx⟩⟩
theorem le_refl {n : Nat} {R : List (List Int)} (h : R.length = n) : le R R = true := (le_iff h h).mpr fun _ _ _ hx => hx
end Toy
namespace Toy
open PySem L2
abbrev sContains : Stmt := inClass sTable 17
theorem isW_iff {n : Nat} {x : Int} : isW n x = true ↔ 0 ≤ x ∧ x < (n : Int) := by
  unfold isW
  rw [Bool.and_eq_true, decide_eq_true_iff, decide_eq_true_iff]
theorem eqP (a b : Int × Int) : PyData.eqv (.tuple [.int a.1, .int a.2]) (.tuple [.int b.1, .int b.2]) = decide (a = b) := by
  obtain ⟨x, y⟩ := a
  obtain ⟨z, u⟩ := b
  simp [PyData.eqv, PyData.eqvAll]
  rfl
theorem dpP {K : PySem.W.Frag} {H : Hp} {t : Addr} {p : Int × Int} (h : H t = some (.tup (vP p))) : Dp K H (.ref t) (.tuple [.int p.1, .int p.2]) := .tup (SqT.of h) (.cons (.int _) (.cons (.int _) .nil))
theorem shP (a : Int × Int) : SeqAt.shaped (.tuple [.int a.1, .int a.2]) = true := by
  simp [SeqAt.shaped, PyData.canLay0, PyData.canLayAll0, PyData.depth, PyData.depthAll]
def dPs (P : List (Int × Int)) : List PyData := P.map fun p => .tuple [.int p.1, .int p.2]
theorem dpAllP {K : PySem.W.Frag} {H : Hp} : ∀ {qs : List V} {P : List (Int × Int)}, PairsT H qs P → DpAll K H qs (dPs P)
  | _, _, .nil => .nil
  | _, _, .cons ⟨t, e, q⟩ r => .cons (by rw [e]; exact dpP q) (dpAllP r)
theorem lay_dPs : ∀ P : List (Int × Int), PyData.canLayAll0 (dPs P) = true
  | [] => rfl
  | p :: P => by
    show (PyData.canLay0 (.tuple [.int p.1, .int p.2]) && PyData.canLayAll0 (dPs P)) = true
    rw [lay_dPs P]
    rfl
theorem dep_dPs : ∀ P : List (Int × Int), PyData.depthAll (dPs P) ≤ 1
  | [] => by decide
  | p :: P => by
    have ih := dep_dPs P
    show max (PyData.depthAll [.int p.1, .int p.2] + 1) (PyData.depthAll (dPs P)) ≤ 1
    have : PyData.depthAll [PyData.int p.1, PyData.int p.2] = 0 := by simp [PyData.depthAll, PyData.depth]
    rw [this]
    omega
theorem shPs (P : List (Int × Int)) : SeqAt.shaped (.tuple (dPs P)) = true ∧ SeqAt.shaped (.list (dPs P)) = true := by
  have := dep_dPs P
  constructor
  · show (PyData.canLayAll0 (dPs P) && decide (PyData.depthAll (dPs P) + 1 ≤ 64)) = true
    rw [lay_dPs, decide_eq_true (by omega)]
    rfl
  · show (PyData.canLayAll0 (dPs P) && decide (PyData.depthAll (dPs P) + 1 ≤ 64)) = true
    rw [lay_dPs, decide_eq_true (by omega)]
    rfl
theorem any_dPs (p : Int × Int) : ∀ P : List (Int × Int), ((dPs P).any fun z => PyData.eqv z (.tuple [.int p.1, .int p.2])) = decide (p ∈ P)
  | [] => by simp [dPs]
  | q :: P => by
    have ih := any_dPs p P
    show (PyData.eqv (.tuple [.int q.1, .int q.2]) (.tuple [.int p.1, .int p.2]) || (dPs P).any fun z => PyData.eqv z (.tuple [.int p.1, .int p.2])) = _
    rw [ih, eqP]
    by_cases h : q = p
    · subst h
      simp
    · have h' : ¬ p = q := fun z => h z.symm
      simp [h, h']
theorem units65 {A : Around} {k : Nat} (hr : Room k A) : A.units + 65 < cLine := by have := hr.un; omega
def inT (R : List (List Int)) (a b : Int) : Bool := decide ((a, b) ∈ prs 0 R)
theorem inT_iff {R : List (List Int)} {a b : Int} : inT R a b = true ↔ ∃ j : Nat, j < R.length ∧ a = (j : Int) ∧ b ∈ row R j := by
  unfold inT
  rw [decide_eq_true_iff, prs_mem]
  simp
theorem inT_word {R : List (List Int)} {j : Nat} (h : j < R.length) (b : Int) : inT R (j : Int) b = decide (b ∈ row R j) := by
  rw [Bool.eq_iff_iff, inT_iff, decide_eq_true_iff]
  constructor
  · rintro ⟨i, hi, e, hb⟩
    have : i = j := by omega
    subst this
    exact hb
  · exact fun hb => ⟨j, h, rfl, hb⟩
def spContains (C : Addr) : Sp := fun vs H Q _ => ∃ (p t : Addr) (R : List (List Int)) (a b : Int), vs = [.ref p, .ref t] ∧ Tab C H p R ∧ H t = some (.tup [.int a, .int b]) ∧ Q (.bl (inT R a b)) H
section
variable {P : Program} {w : World} {K : PySem.W.Frag} {mg : Str → Option Value} {base : Heap}
theorem scContains : FnScope ["self", "pair"] ["self", "pair"] (defScope sContains) := ⟨rfl, rfl, rfl, by decide +kernel, rfl, by decide +kernel, by decide +kernel⟩
theorem ok_contains {f C : Addr} {fd : FuncData} (F : Fun K "__contains__" "Table.__contains__" sContains f fd) (S : Gs K mg C) : FnOk P w K mg base CX0 1 f fd ["self", "pair"] (spContains C) := by
  refine F.ok scContains (fun vs H Q E h => ?_) (fun cdv A outer s H vs Q E hr h => ?_)
  · obtain ⟨p, t, R, a, b, rfl, _⟩ := h
    rfl
  · obtain ⟨p, t, R, a, b, rfl, hT, ht, k⟩ := h
    obtain ⟨dx, tr, tp, ts, qs, h1, h2, h3, h4, h5, h6, h7, h8, h9⟩ := id hT
    refine ⟨_, pss_one (ps_ret (pe_cmpR (op_inT (units65 hr)) (pv 1) (pe_fld (pv 0) rfl) (by rfl))), ?_⟩
    refine ⟨_, rfl, _, rfl, p, C, dx, _, _, rfl, h1, S.T.cl, S.T.nP, tf_pairs _ _ _, _, _, dpP (p := (a, b)) ht, .tup (SqT.of h5) (dpAllP h6), shP (a, b), (shPs _).1, ?_⟩
    have e := any_dPs (a, b) (prs 0 R)
    rw [e]
    exact k
end
end Toy
namespace Toy
open PySem PySem.Spec PyProof.Rows L2
def spOutT (C : Addr) : Sp := fun vs H Q _ => ∃ (p l : Addr) (R : List (List Int)) (ws : List Int), vs = [.ref p, .ref l] ∧ Tab C H p R ∧ H l = some (.tup (vI ws)) ∧ (∀ x ∈ ws, isW R.length x = true) ∧ ws.length ≤ 1000 ∧
  ∀ H' d, Same H H' → H d = none → H' d = some (.lst (vI (asc (cat R ws) R.length))) → Q (.ref d) H'
def spMul (C : Addr) : Sp := fun vs H Q _ => ∃ (p q : Addr) (R W : List (List Int)), vs = [.ref p, .ref q] ∧ Tab C H p R ∧ Tab C H q W ∧ R.length = W.length ∧ (∀ r ∈ R, Can R.length r) ∧ ∀ H' x, Same H H' → H x = none → Tab C H' x (mul R W) → Q (.ref x) H'
theorem tf_out' (n : Nat) (tr tp : Addr) : (tf n tr tp).lookup ("_out_of_some" : Str) = none := tf_no _ _ _ (by decide +kernel) (by decide +kernel) (by decide +kernel)
section
variable {P : Program} {w : World} {K : PySem.W.Frag} {mg : Str → Option Value} {base : Heap}
theorem scOut : FnScope ["self", "words", "word", "out"] ["self", "words"] (defScope sOutSome) := ⟨rfl, rfl, rfl, by decide +kernel, rfl, by decide +kernel, by decide +kernel⟩
theorem ok_outT {f C : Addr} {fd : FuncData} (F : Fun K "_out_of_some" "Table._out_of_some" sOutSome f fd) (S : Gs K mg C) : FnOk P w K mg base CX0 2 f fd ["self", "words"] (spOutT C) := by
  obtain ⟨fS, fdS, FS, mS, bS⟩ := S.asc
  refine F.ok scOut (fun vs H Q E h => ?_) (fun cdv A outer s H vs Q E hr h => ?_)
  · obtain ⟨p, l, R, ws, rfl, _⟩ := h
    rfl
  · obtain ⟨p, l, R, ws, rfl, hT, hl, hw, w1000, k⟩ := h
    obtain ⟨dx, tr, tp, ts, qs, h1, h2, h3, h4, h5, h6, h7, h8, h9⟩ := id hT
    refine ⟨_, pss_one (ps_ret (pe_call (ok_asc FS S.B) hr rfl mS FS.kp bS .nil pass0 (pa_cons
      (pe_lc2 (own := [("word", 2), ("out", 3)]) (vs1 := [3]) (tt := tYes) (tt1 := tYes) (g := gName 2) (g1 := gName 3) (wi1 := iTup K (tOp (rIxT K) (tFld K (tVar 0) "_rows") (tVar 2))) rfl scOut.nd (pi_tup (pv 1))
        (blkOk_by (own := [("word", 2), ("out", 3)]) (N := ["self", "words", "word", "out"]) (sc := defScope sOutSome) (by decide +kernel)) (by decide)
        (fun _ _ _ _ _ => pg_name (i := 2) scOut.nd rfl (Or.inl rfl)) (fun _ _ _ _ _ => pts_nil)
        (fun _ _ _ _ _ => pi_tup (pe_ix ix_tup (pe_fld (pv 0) rfl) (pv 2) (fun _ _ => rfl))) (fun _ _ _ _ _ => pg_name (i := 3) scOut.nd rfl (Or.inl rfl)) (fun _ _ _ _ _ => pts_nil)
        (fun _ _ _ _ _ => pv 3)) (pa_cons (pe_fld (pv 0) rfl) pa_nil)))), ?_⟩
    refine ⟨_, rfl, l, rfl, ⟨_, SqT.of hl⟩, fun D hD => ?_⟩
    refine lc2_out (walk_tup (K := K) (a := l) (xs := vI ws)) (fun i H' => Same H H' ∧ H' D = some (.lst (vI (cat R (ws.take i))))) ⟨Same.new hD, upd_same⟩ (fun i H' _ ⟨s, _⟩ => SqT.of (s _ _ hl)) ?_ ?_
    · rintro i x H4 H5 hi ⟨s5, hd⟩ ⟨rfl, hx⟩
      obtain ⟨y, hy, rfl⟩ := vI_at hx
      have hyw := isW_iff.mp (hw y (List.mem_of_getElem? hy))
      obtain ⟨j, rfl⟩ := Int.eq_ofNat_of_zero_le hyw.1
      have hr0 : R[j]? = some (row R ((j : Int)).toNat) := by rw [Int.toNat_natCast]; exact at_row (by omega)
      obtain ⟨v, hv, t, rfl, ht⟩ := L2.Paired.at2 (RowsT.same s5 h4) hr0
      have ht' := ht
      refine ⟨rfl, yesT (iteT ?_)⟩
      refine ⟨_, rfl, p, C, dx, _, _, rfl, s5 _ _ h1, S.T.cl, S.T.nR, tf_rows _ _ _, _, rfl, tr, ts, (j : Int), _, rfl, rfl, SqT.of (s5 _ _ h3), atI_nat hv, t, rfl, ⟨_, SqT.of ht⟩, ?_⟩
      generalize hR : row R ((j : Int)).toNat = r at hr0 ht ht'
      have r6' := h9 r (List.mem_of_getElem? hr0)
      refine lc2_in (walk_tup (K := K) (a := t) (xs := vI r)) (fun m H' => Same H H' ∧ H' t = some (.tup (vI r)) ∧ H' D = some (.lst (vI (cat R (ws.take i) ++ r.take m)))) ⟨s5, ht, by rw [List.take_zero, List.append_nil]; exact hd⟩ (fun m H' _ ⟨_, h, _⟩ => SqT.of h) ?_ ?_
      · rintro m x H6 H7 hm ⟨s7, ht7, hq7⟩ ⟨rfl, hx7⟩
        obtain ⟨z, hz, rfl⟩ := vI_at hx7
        refine ⟨rfl, yesT (iteT ?_)⟩
        refine ⟨_, rfl, _, hq7, ?_, Same.updN s7 hD, by rw [upd_ne (ne_of ht7 hq7 (fun q => nomatch q))]; exact ht7, ?_⟩
        · rw [vI_len, List.length_append]
          have h1 := cat_len h9 (ws.take i)
          have h2 : (ws.take i).length ≤ ws.length := List.length_take_le' _ _
          have h3 : (r.take m).length ≤ r.length := List.length_take_le' _ _
          exact Nat.lt_of_le_of_lt (by omega : _ ≤ 6006) (by decide)
        · rw [upd_same, take_more hz]
          unfold vI
          rw [List.map_append, List.map_append, List.map_append, List.append_assoc]
          rfl
      · rintro H6 ⟨s7, ht7, hq7⟩
        rw [vI_len, List.take_length] at hq7
        refine ⟨s7, ?_⟩
        rw [take_more hy, cat_snoc, hR]
        exact hq7
    · rintro H6 ⟨s7, hq⟩
      rw [vI_len, List.take_length] at hq
      refine ⟨_, rfl, p, C, dx, _, _, rfl, s7 _ _ h1, S.T.cl, S.T.nS, tf_size _ _ _, D, cat R ws, R.length, rfl, .inl (SqL.of hq), h8, fun H7 d s8 d0 hd => ?_⟩
      exact k H7 d (s7.trans s8) (s7.free d0) hd
theorem scMul : FnScope ["self", "other", "row"] ["self", "other"] (defScope sMul) := ⟨rfl, rfl, rfl, by decide +kernel, rfl, by decide +kernel, by decide +kernel⟩
theorem ok_mul {f n g c C : Addr} {fd fdn fdg fdc : FuncData} (F : Fun K "__mul__" "Table.__mul__" sMul f fd) (S : Gs K mg C) (N : Fun K "__init__" "Table.__init__" sInit n fdn) (M : Mk K C n) (bN : Binds K fdn ["self", "rows"] [])
    (G : Fun K "_out_of_some" "Table._out_of_some" sOutSome g fdg) (mG : Meth K C "_out_of_some" g) (bG : Binds K fdg ["self", "words"] []) (Z : Fun K "check_same_size" "check_same_size" sChSame c fdc) (mZ : mg "check_same_size" = some (.ref c)) (bZ : Binds K fdc ["first", "second"] []) :
    FnOk P w K mg base CX0 5 f fd ["self", "other"] (spMul C) := by
  have B := S.B
  refine F.ok scMul (fun vs H Q E h => ?_) (fun cdv A outer s H vs Q E hr h => ?_)
  · obtain ⟨p, q, R, W, rfl, _⟩ := h
    rfl
  · obtain ⟨p, q, R, W, rfl, hT, hT2, eRW, cR, k⟩ := h
    have hr1 : Room 1 _ := hr.mono (by decide)
    have hr4 : Room 4 _ := hr.mono (by decide)
    have hr2 : Room 2 _ := hr.mono (by decide)
    refine ⟨_, pss_cons (ps_expr (pe_call (ok_chSame Z S.T) hr1 rfl mZ Z.kp bZ .nil pass0 (pa_cons (pv 0) (pa_cons (pv 1) pa_nil))))
      (pss_one (ps_ret (pe_make M (ok_init N S) hr4 rfl S.T.mgC bN .nil pass0 (pa_cons
        (pe_lc (own := [("row", 2)]) (g := gName 2) (tt := tYes) (te := tMeth C "_out_of_some" (spOutT C) [] E0 (tVar 1) (tCons (tVar 2) tNil)) rfl scMul.nd (pi_tup (pe_fld (pv 0) rfl)) (blkOk_by (own := [("row", 2)]) (N := ["self", "other", "row"]) (sc := defScope sMul) (by decide +kernel))
          (fun _ _ _ _ _ => pg_name (i := 2) scMul.nd rfl (Or.inl rfl)) (fun _ _ _ _ _ => pts_nil) (fun _ _ _ _ _ => pe_meth (pv 1) S.T.cl mG (ok_outT G S) hr2 bG .nil pass0 (pa_cons (pv 2) pa_nil))) pa_nil)))), ?_⟩
    refine ⟨_, rfl, _, rfl, p, q, R, W, rfl, hT, hT2, eRW, ?_⟩
    obtain ⟨dx, tr, tp, ts, qs, h1, h2, h3, h4, h5, h6, h7, h8, h9⟩ := id hT
    obtain ⟨dxq, trq, tpq, tsq, qsq, g1, _⟩ := id hT2
    refine ⟨_, rfl, p, C, dx, _, _, rfl, h1, S.T.cl, S.T.nR, tf_rows _ _ _, tr, rfl, ⟨_, SqT.of h3⟩, fun D hD => ?_⟩
    refine lc_tup (K := K) (a := tr) (xs := ts) (fun i H' => Same H H' ∧ ∃ ks, H' D = some (.lst ks) ∧ RowsL H' ks ((mul R W).take i) ∧ ∀ v ∈ ks, v ≠ .ref D) ⟨Same.new hD, [], upd_same, .nil, fun _ h => by cases h⟩ (fun i H' _ ⟨s, _⟩ => SqT.of (s _ _ h3)) ?_ ?_
    · rintro i y H2 hi ⟨s2, ks, hk, hKs, nD⟩
      obtain ⟨r, hr0, t, rfl, ht⟩ := L2.Paired.at (RowsT.same s2 h4) hi
      have hi' : i < R.length := (List.getElem?_eq_some_iff.mp hr0).1
      refine ⟨rfl, yesT (iteT ?_)⟩
      refine ⟨_, rfl, q, dxq, _, rfl, s2 _ _ g1, tf_out' _ _ _, _, rfl, q, t, W, r, rfl, hT2.same s2, ht, (fun x hx => isW_iff.mpr (by rw [← eRW]; exact (cR r (List.mem_of_getElem? hr0)).mem hx)), (by have := h9 r (List.mem_of_getElem? hr0); omega), fun H3 d s3 d0 hd => ?_⟩
      have nDd : d ≠ D := (ne_of_none hk d0).symm
      obtain ⟨z1, z2⟩ := RowsL.snoc (o := .lst (ks ++ [.ref d])) (RowsL.same s3 hKs) nD hd nDd
      refine ⟨ks, s3 _ _ hk, ?_, Same.updN (s2.trans s3) hD, ks ++ [.ref d], upd_same, ?_, z2⟩
      · rw [Paired.length hKs]
        refine Nat.lt_of_le_of_lt (Nat.le_trans (List.length_take_le' _ _) (?_ : _ ≤ 6)) (by decide)
        rw [mul_len]
        omega
      · have e : (mul R W)[i]? = some (asc (cat W r) W.length) := by
          rw [at_row (by rw [mul_len]; omega), mul_row (by omega), row_of hr0]
        rw [take_more e]
        exact z1
    · rintro H2 ⟨s2, ks, hk, hKs, nD⟩
      have lt : ts.length = R.length := Paired.length h4
      have ek : (mul R W).take ts.length = mul R W := List.take_of_length_le (by rw [mul_len]; omega)
      rw [ek] at hKs
      have hC := mul_can eRW
      refine fun x dx2 hx hdx ndx => ?_
      have s6 : Same H2 (upd (upd H2 dx2 (.own x)) x (.ins C dx2 [])) := Same.upd (Same.new hdx) (by rw [upd_ne ndx.symm]; exact hx)
      refine ⟨x, dx2, D, ks, mul R W, rfl, upd_same, by rw [upd_ne ndx]; exact upd_same, s6 _ _ hk, RowsL.same s6 hKs, by rw [mul_len]; omega, by rw [mul_len]; omega, by rw [mul_len]; exact can_all hC.2 (by omega), fun H3 k3 hT3 => ⟨rfl, ?_⟩⟩
      rw [mul_len, same_rows hC.2] at hT3
      have s13 := s2
      exact k H3 x (fun q o e => k3 q o (ne_of_none (s13 _ _ e) hx) (s6 _ _ (s13 _ _ e))) (s13.free hx) hT3
end
end Toy
namespace Toy
open PySem PySem.Spec PyProof.Rows L2
abbrev sJoin : Stmt := top 28
def spJoin : Sp := fun vs H Q _ => ∃ (l1 l2 : Addr) (ls1 ls2 : List V) (n : Nat) (A X : List (List Int)), vs = [.ref l1, .ref l2] ∧ H l1 = some (.lst ls1) ∧ RowsL H ls1 A ∧ H l2 = some (.lst ls2) ∧ RowsL H ls2 X ∧ CanR n A ∧ CanR n X ∧ n ≤ 6 ∧
  ∀ H' d ks, Same H H' → H d = none → H' d = some (.lst ks) → RowsL H' ks (mul A X) → Q (.ref d) H'
section
variable {P : Program} {w : World} {K : PySem.W.Frag} {mg : Str → Option Value} {base : Heap}
end
abbrev NJ : List Str := ["_law_first", "_law_last", "_law_found", "_law_row", "_law_outs", "_law_mid", "_law_out", "_law_word"]
section
variable {P : Program} {w : World} {K : PySem.W.Frag} {mg : Str → Option Value} {base : Heap}
theorem scJoin : FnScope NJ ["_law_first", "_law_last"] (defScope sJoin) := ⟨rfl, rfl, rfl, by decide +kernel, rfl, by decide +kernel, by decide +kernel⟩
theorem ok_join {f : Addr} {fd : FuncData} (F : Fun K "_law_join" "_law_join" sJoin f fd) (B : Bt mg) : FnOk P w K mg base CX0 1 f fd ["_law_first", "_law_last"] spJoin := by
  refine F.ok scJoin (fun vs H Q E h => ?_) (fun cdv A outer s H vs Q E hr h => ?_)
  · obtain ⟨l1, l2, ls1, ls2, n, A, X, rfl, _⟩ := h
    rfl
  · obtain ⟨l1, l2, ls1, ls2, n, R, X, rfl, q1, r1, q2, r2, cR, cX, n6, k⟩ := h
    have lR := cR.1
    have lX := cX.1
    have e1 : ls1.length = n := by rw [Paired.length r1, lR]
    have e2 : ls2.length = n := by rw [Paired.length r2, lX]
    have x6 : ∀ r ∈ X, r.length ≤ 6 := fun r hr => Nat.le_trans (cX.2 r hr).len n6
    refine ⟨_, pss_cons (ps_set (i := 2) scJoin.nd rfl (Or.inl rfl) (pe_lst pa_nil))
      (pss_cons (ps_for PassesOwn.never rfl (pi_list (pv 0)) (pg_name (i := 3) scJoin.nd rfl (Or.inl rfl))
        (pss_cons (ps_set (i := 4) scJoin.nd rfl (Or.inr rfl) (pe_lst pa_nil))
        (pss_cons (ps_for PassesOwn.never rfl (pi_list (pv 3)) (pg_name (i := 5) scJoin.nd rfl (Or.inl rfl))
          (pss_one (ps_set (i := 4) scJoin.nd rfl (Or.inr rfl) (pe_op op_cat (pv 4) (pe_lc (own := [("_law_out", 6)]) (g := gName 6) (tt := tTest (tOp (rIn K true) (tVar 6) (tVar 4))) rfl scJoin.nd (pi_list (pe_ix ix_list (pv 1) (pv 5) (fun _ _ => rfl))) (blkOk_by (own := [("_law_out", 6)]) (N := NJ) (sc := defScope sJoin) (by decide +kernel))
            (fun _ _ _ _ _ => pg_name (i := 6) scJoin.nd rfl (Or.inl rfl)) (fun _ _ _ _ _ => pts_one (pt_cmpR op_notIn_seq (pv 6) (pv 4) (by rfl))) (fun _ _ _ _ _ => pv 6))))))
        (pss_one (ps_expr (pe_bm PySem.F.plainAttrs_list PySem.F.slot_list_append PySem.F.type_list_append mt_append (pv 2) (pa_cons
          (pe_lc (own := [("_law_word", 7)]) (g := gName 7) (tt := tTest (tOp (rIn K false) (tVar 7) (tVar 4))) rfl scJoin.nd (pi_range1 (by rfl) B.range (pa_cons (pe_callB call_len_seq (by rfl) B.len PySem.boot_len (pa_cons (pv 1) pa_nil)) pa_nil)) (blkOk_by (own := [("_law_word", 7)]) (N := NJ) (sc := defScope sJoin) (by decide +kernel))
            (fun _ _ _ _ _ => pg_name (i := 7) scJoin.nd rfl (Or.inl rfl)) (fun _ _ _ _ _ => pts_one (pt_cmpR op_in_seq (pv 7) (pv 4) (by rfl))) (fun _ _ _ _ _ => pv 7)) pa_nil)))))))
      (pss_one (ps_ret (pv 2)))), ?_⟩
    refine ⟨Nat.zero_le _, fun D hD => ?_⟩
    refine ⟨_, rfl, l1, rfl, ⟨_, SqL.of (Same.new hD _ _ q1)⟩, for_list (K := K) (a := l1) (xs := ls1) (fun i σ H' => (∃ v3 v4 v5, σ = [some (.ref l1), some (.ref l2), some (.ref D), v3, v4, v5, none, none]) ∧ Same H H' ∧ ∃ ks, H' D = some (.lst ks) ∧ RowsL H' ks ((mul R X).take i) ∧ ∀ v ∈ ks, v ≠ .ref D)
      ⟨⟨none, none, none, rfl⟩, Same.new hD, [], upd_same, .nil, fun _ h => by cases h⟩ (fun i σ H' _ ⟨_, s, _⟩ => SqL.of (s _ _ q1)) ?_ ?_⟩
    · rintro i y σ H1 hi ⟨⟨v3, v4, v5, rfl⟩, s1, ks, hk, hKs, nD⟩
      obtain ⟨r, hr0, t, rfl, ht⟩ := L2.Paired.at r1 hi
      have hin : i < n := by have := (List.getElem?_eq_some_iff.mp hr0).1; omega
      have hr' : r = row R i := (row_of hr0).symm
      have cr : Can n r := cR.2 r (List.mem_of_getElem? hr0)
      refine ⟨Nat.zero_le _, fun o0 ho0 => ?_⟩
      refine ⟨_, rfl, t, rfl, ⟨_, SqL.of (Same.new ho0 _ _ (s1 _ _ ht))⟩, for_list (K := K) (a := t) (xs := vI r) (fun e σ H' => (∃ o v5 os, σ = [some (.ref l1), some (.ref l2), some (.ref D), some (.ref t), some (.ref o), v5, none, none] ∧ H' o = some (.lst (vI os)) ∧ os.length ≤ 6 * e ∧ ∀ z, z ∈ os ↔ z ∈ cat X (r.take e)) ∧ Same H1 H')
        ⟨⟨o0, v5, [], rfl, upd_same, Nat.zero_le _, fun z => by simp [cat]⟩, Same.new ho0⟩ (fun e σ H' _ ⟨_, s⟩ => SqL.of ((s1.trans s) _ _ ht)) ?_ ?_⟩
      · rintro e y σ H2 he ⟨⟨o, v5, os, rfl, ho, lo, mo⟩, s2⟩
        obtain ⟨x, hx, rfl⟩ := vI_at he
        have hxb := cr.mem (List.mem_of_getElem? hx)
        obtain ⟨m, rfl⟩ := Int.eq_ofNat_of_zero_le hxb.1
        have s12 := s1.trans s2
        obtain ⟨u, hu, tx, rfl, htx⟩ := L2.Paired.at2 (RowsL.same s12 r2) (at_row (by omega : m < X.length))
        refine ⟨_, rfl, _, rfl, _, rfl, l2, _, _, _, rfl, rfl, SqL.of (s12 _ _ q2), atI_nat hu, tx, rfl, ⟨_, SqL.of htx⟩, fun D2 hD2 => ?_⟩
        have l6 : (row X m).length ≤ 6 := row_len x6 m
        refine lc_list (K := K) (a := tx) (xs := vI (row X m)) (fun g H' => Same H2 H' ∧ H' D2 = some (.lst (vI (((row X m).take g).filter fun z => !decide (z ∈ os))))) ⟨Same.new hD2, upd_same⟩ (fun g H' _ ⟨s, _⟩ => SqL.of (s _ _ htx)) ?_ ?_
        · rintro g z H3 hg ⟨s3, hd3⟩
          obtain ⟨z, hz, rfl⟩ := vI_at hg
          refine ⟨rfl, ?_⟩
          refine ⟨_, rfl, _, rfl, o, _, rfl, .inl (SqL.of (s3 _ _ ho)), rfl, flat_vI _, _, rfl, ?_⟩
          show if (if true = true then !inV (.int z) (vI os) else inV (.int z) (vI os)) = true then _ else _
          rw [if_pos rfl, inV_vI, take_more hz, List.filter_append]
          by_cases c : z ∈ os
          · rw [decide_eq_true c]
            refine iteF ⟨s3, ?_⟩
            rw [List.filter_cons_of_neg (by simp [c]), List.filter_nil, List.append_nil]
            exact hd3
          · rw [decide_eq_false c]
            refine iteT ?_
            refine ⟨_, rfl, _, hd3, ?_, Same.updN s3 hD2, ?_⟩
            · rw [vI_len]
              exact Nat.lt_of_le_of_lt (Nat.le_trans (List.length_filter_le _ _) (Nat.le_trans (List.length_take_le' _ _) l6)) (by decide)
            · rw [upd_same, List.filter_cons_of_pos (by simp [c]), List.filter_nil]
              unfold vI
              rw [List.map_append]
              rfl
        · rintro H3 ⟨s3, hd3⟩
          rw [vI_len, List.take_length] at hd3
          have hl := (List.getElem?_eq_some_iff.mp hx).1
          have r6 := cr.len
          refine ⟨o, D2, _, _, rfl, rfl, s3 _ _ ho, hd3, ?_, fun p hp => ?_⟩
          · rw [vI_len, vI_len]
            have h1 := List.length_filter_le (fun z => !decide (z ∈ os)) (row X m)
            exact Nat.le_trans (by omega : _ ≤ 100) (by decide)
          · refine ⟨⟨p, _, os ++ (row X m).filter fun z => !decide (z ∈ os), rfl, ?_, ?_, fun z => ?_⟩, s2.trans (s3.trans (Same.new hp))⟩
            · rw [upd_same]
              unfold vI
              rw [List.map_append]
            · rw [List.length_append]
              have h1 := List.length_filter_le (fun z => !decide (z ∈ os)) (row X m)
              omega
            · rw [take_more hx, cat_snoc, List.mem_append, List.mem_append, ← mo z, Int.toNat_natCast]
              by_cases c : z ∈ os
              · simp [c]
              · simp [c]
      · rintro σ H2 ⟨⟨o, v5, os, rfl, ho, lo, mo⟩, s2⟩
        rw [vI_len, List.take_length] at mo
        rw [vI_len] at lo
        have s12 := s1.trans s2
        have hk2 := s2 _ _ hk
        refine ⟨_, rfl, .inl ⟨rfl, _, SqL.of hk2⟩, _, rfl, l2, _, rfl, .inl (SqL.of (s12 _ _ q2)), (ls2.length : Int), rfl, by omega, by omega, fun D2 hD2 => ?_⟩
        refine lc_range (lo := 0) (n := ls2.length) (fun g H' => Same H2 H' ∧ H' D2 = some (.lst (vI (asc os g)))) ⟨Same.new hD2, upd_same⟩ ?_ ?_
        · rintro g H3 hg ⟨s3, hd3⟩
          have g0 : (0 : Int) + (g : Int) = (g : Int) := Int.zero_add _
          rw [g0]
          refine ⟨rfl, ?_⟩
          refine ⟨_, rfl, _, rfl, o, _, rfl, .inl (SqL.of (s3 _ _ ho)), rfl, flat_vI _, _, rfl, ?_⟩
          show if (if false = true then !inV (.int (g : Int)) (vI os) else inV (.int (g : Int)) (vI os)) = true then _ else _
          rw [if_neg Bool.false_ne_true, inV_vI, asc_succ]
          by_cases hm : (g : Int) ∈ os
          · rw [decide_eq_true hm, if_pos hm]
            refine iteT ?_
            refine ⟨_, rfl, _, hd3, ?_, Same.updN s3 hD2, ?_⟩
            · rw [vI_len]
              exact Nat.lt_of_le_of_lt (Nat.le_trans (asc_len _ _) (by omega : g ≤ 6)) (by decide)
            · rw [upd_same]
              unfold vI
              rw [List.map_append]
              rfl
          · rw [decide_eq_false hm, if_neg hm]
            exact iteF ⟨s3, hd3⟩
        · rintro H3 ⟨s3, hd3⟩
          have nDD : D2 ≠ D := (ne_of_none hk2 hD2).symm
          obtain ⟨z1, z2⟩ := RowsL.snoc (o := .lst (ks ++ [.ref D2])) (RowsL.same (s2.trans s3) hKs) nD hd3 nDD
          refine ⟨D, ks, _, rfl, rfl, s3 _ _ hk2, ?_, ⟨_, _, _, rfl⟩, Same.updN (s12.trans s3) hD, ks ++ [.ref D2], upd_same, ?_, z2⟩
          · rw [Paired.length hKs]
            refine Nat.lt_of_le_of_lt (Nat.le_trans (List.length_take_le' _ _) (?_ : _ ≤ 6)) (by decide)
            rw [mul_len]
            omega
          · have e : (mul R X)[i]? = some (asc os ls2.length) := by
              rw [at_row (by rw [mul_len]; omega), mul_row (by omega), ← hr', e2, lX]
              exact congrArg some (asc_congr fun j _ => (mo (j : Int)).symm)
            rw [take_more e]
            exact z1
    · rintro σ H1 ⟨⟨v3, v4, v5, rfl⟩, s1, ks, hk, hKs, nD⟩
      rw [List.take_of_length_le (by rw [mul_len]; omega)] at hKs
      exact ⟨_, rfl, k H1 D ks s1 hD hk hKs⟩
end
end Toy
namespace Toy
open PySem PySem.Spec PyProof.Rows L2
abbrev sHolds : Stmt := top 22
def okBlk (R W : List (List Int)) (t o : Int) (p : Int × Int) : Bool := inT R t p.1 && (inT R p.2 p.1 && !inT W p.2 o)
def lostOk (R W : List (List Int)) (t o : Int) (B : List (Int × Int)) : Bool := inT W t o && (B.all (okBlk R W t o) && (row R t.toNat).all fun m => decide (m ∈ B.map (·.1)))
def spHolds (C : Addr) : Sp := fun vs H Q _ => ∃ (p q t l : Addr) (ls : List V) (R W : List (List Int)) (told out : Int) (B : List (Int × Int)), vs = [.ref p, .ref q, .ref t] ∧ Tab C H p R ∧ Tab C H q W ∧ R.length = W.length ∧
  H t = some (.tup [.int told, .int out, .ref l]) ∧ H l = some (.lst ls) ∧ PairsT H ls B ∧ B.length ≤ 8 ∧ ∀ H', Same H H' → Q (.bl (lostOk R W told out B)) H'
section
variable {P : Program} {w : World} {K : PySem.W.Frag} {mg : Str → Option Value} {base : Heap}
abbrev NH : List Str := ["first", "whole", "paper", "told", "out", "blocks", "mid", "other", "blocked", "_"]
theorem scHolds : FnScope NH ["first", "whole", "paper"] (defScope sHolds) := ⟨rfl, rfl, rfl, by decide +kernel, rfl, by decide +kernel, by decide +kernel⟩
theorem ok_holds {f C c g z : Addr} {fd fdC fdG fdZ : FuncData} (F : Fun K "lost_holds" "lost_holds" sHolds f fd) (Gs : Gs K mg C) (FZ : Fun K "check_same_size" "check_same_size" sChSame z fdZ) (mZ : mg "check_same_size" = some (.ref z)) (bZ : Binds K fdZ ["first", "second"] [])
    (FC : Fun K "__contains__" "Table.__contains__" sContains c fdC) (mC : PySem.W.findIn K (.ref C) "__contains__" = some (some (.ref c))) (mC2 : PySem.W.isFn K (.ref c) = true) (bC : Binds K fdC ["self", "pair"] [])
    (FG : Fun K "__getitem__" "Table.__getitem__" sGetitem g fdG) (mG : PySem.W.findIn K (.ref C) "__getitem__" = some (some (.ref g))) (mGf : PySem.W.fnIn K g = true) (mG2 : PySem.W.isFn K (.ref g) = true) (bG : Binds K fdG ["self", "word"] []) :
    FnOk P w K mg base CX0 5 f fd ["first", "whole", "paper"] (spHolds C) := by
  have B := Gs.B
  refine F.ok scHolds (fun vs H Q E h => ?_) (fun cdv A outer s H vs Q E hr h => ?_)
  · obtain ⟨p, q, t, l, ls, R, W, told, out, Bs, rfl, _⟩ := h
    rfl
  · obtain ⟨p, q, t, l, ls, R, W, told, out, Bs, rfl, hT, hT2, eRW, ht, hl, hP, b8, k⟩ := h
    have hr1 : Room 1 _ := hr.mono (by decide)
    obtain ⟨dx, tr, tp, ts, qs, h1, h2, h3, h4, h5, h6, h7, h8, h9⟩ := id hT
    obtain ⟨dx', tr', tp', ts', qs', g1, g2, g3, g4, g5, g6, g7, g8, g9⟩ := id hT2
    refine ⟨_, pss_cons (ps_expr (pe_call (ok_chSame FZ Gs.T) hr1 rfl mZ FZ.kp bZ .nil pass0 (pa_cons (pv 0) (pa_cons (pv 1) pa_nil))))
      (pss_cons (ps_asg (pv 2) (pg_tup (by rfl) (pgs_cons (pg_name (i := 3) scHolds.nd rfl (Or.inl rfl)) (pgs_cons (pg_name (i := 4) scHolds.nd rfl (Or.inl rfl)) (pgs_cons (pg_name (i := 5) scHolds.nd rfl (Or.inl rfl)) pgs_nil)))))
      (pss_cons (ps_if (pt_cmpR (op_notInO (ok_contains FC Gs) hr1 bC pass0 mC mC2) (pe_tup (pa_cons (pv 3) (pa_cons (pv 4) pa_nil))) (pv 1) (by rfl)) (pss_one (ps_ret pe_bl)) pss_nil)
      (pss_cons (ps_for PassesOwn.never rfl (pi_list (pv 5)) (pg_tup (by rfl) (pgs_cons (pg_name (i := 6) scHolds.nd rfl (Or.inl rfl)) (pgs_cons (pg_name (i := 7) scHolds.nd rfl (Or.inl rfl)) pgs_nil))) (pss_one (ps_if (PW.pt (pw_or (pt_cmpR (op_notInO (ok_contains FC Gs) hr1 bC pass0 mC mC2) (pe_tup (pa_cons (pv 3) (pa_cons (pv 6) pa_nil))) (pv 0) (by rfl)) (pw_or (pt_cmpR (op_notInO (ok_contains FC Gs) hr1 bC pass0 mC mC2) (pe_tup (pa_cons (pv 7) (pa_cons (pv 6) pa_nil))) (pv 0) (by rfl)) (pw_or1 (pt_cmpR (op_inO (ok_contains FC Gs) hr1 bC pass0 mC mC2) (pe_tup (pa_cons (pv 7) (pa_cons (pv 4) pa_nil))) (pv 1) (by rfl)))))) (pss_one (ps_ret pe_bl)) pss_nil)))
      (pss_cons (ps_set (i := 8) scHolds.nd rfl (Or.inr rfl) (pe_lc (own := [("mid", 6), ("_", 9)]) (g := (gTup K 2 (gCons (gName 6) (gCons (gName 9) gNil)))) (tt := tYes) (te := (tVar 6)) rfl scHolds.nd (pi_list (pv 5)) (blkOk_by (own := [("mid", 6), ("_", 9)]) (N := NH) (sc := defScope sHolds) (by decide +kernel)) (fun _ _ _ _ _ => (pg_tup (by rfl) (pgs_cons (pg_name (i := 6) scHolds.nd rfl (Or.inl rfl)) (pgs_cons (pg_name (i := 9) scHolds.nd rfl (Or.inl rfl)) pgs_nil)))) (fun _ _ _ _ _ => pts_nil) (fun _ _ _ _ _ => (pv 6))))
      (pss_one (ps_ret (pe_callB (cr_all rfl) (by rfl) B.all (by decide +kernel) (pa_cons (pe_lc (own := [("mid", 6)]) (g := (gName 6)) (tt := tYes) (te := (tOp (rIn K false) (tVar 6) (tVar 8))) rfl scHolds.nd (pi_list (pe_ixOwn (ok_getitem FG Gs) hr bG pass0 mG mGf mG2 (pv 0) (pv 3))) (blkOk_by (own := [("mid", 6)]) (N := NH) (sc := defScope sHolds) (by decide +kernel)) (fun _ _ _ _ _ => (pg_name (i := 6) scHolds.nd rfl (Or.inl rfl))) (fun _ _ _ _ _ => pts_nil) (fun _ _ _ _ _ => (pe_cmpR op_in_seq (pv 6) (pv 8) (by rfl)))) pa_nil)))))))), ?_⟩
    refine ⟨_, rfl, _, rfl, p, q, R, W, rfl, hT, hT2, eRW, ?_⟩
    refine ⟨_, rfl, t, _, rfl, SqT.of ht, rfl, _, _, rfl, _, _, rfl, _, _, rfl, rfl, ?_⟩
    refine ⟨_, rfl, _, rfl, (by show 2 ≤ sizeLine; decide), fun u hu => ?_⟩
    have s0 := Same.new (H := H) (o := .tup [.int told, .int out]) hu
    refine ⟨_, rfl, q, dx', _, rfl, s0 _ _ g1, q, u, W, told, out, rfl, hT2.same s0, upd_same, _, rfl, _, rfl, ?_⟩
    generalize upd H u (.tup [.int told, .int out]) = H0 at s0
    by_cases c0 : inT W told out = true
    case neg =>
      have c0' : inT W told out = false := by simpa using c0
      rw [c0']
      refine iteT ?_
      have e : lostOk R W told out Bs = false := by unfold lostOk; rw [c0']; rfl
      have z := k H0 s0
      rw [e] at z
      exact z
    rw [c0]
    refine iteF ?_
    have lB : ls.length = Bs.length := Paired.length hP
    refine ⟨_, rfl, l, rfl, ⟨_, SqL.of (s0 _ _ hl)⟩, for_list (K := K) (a := l) (xs := ls) (fun i σ H' => Same H H' ∧ (Bs.take i).all (okBlk R W told out) = true ∧ ∃ v6 v7, σ = [some (.ref p), some (.ref q), some (.ref t), some (.int told), some (.int out), some (.ref l), v6, v7, none, none])
      ⟨s0, by simp, none, none, rfl⟩ (fun i σ H' _ ⟨s, _⟩ => SqL.of (s _ _ hl)) ?_ ?_⟩
    · rintro i y σ H1 hi ⟨s1, hall, v6, v7, rfl⟩
      obtain ⟨⟨m, x⟩, hb, tt, rfl, htt⟩ := L2.Paired.at (PairsT.same s1 hP) hi
      refine ⟨tt, _, rfl, SqT.of htt, rfl, _, _, rfl, _, _, rfl, rfl, ?_⟩
      have bad : okBlk R W told out (m, x) = false → ∀ H', Same H H' → Q (.bl false) H' := fun e H' s => by
        have e2 : lostOk R W told out Bs = false := by
          unfold lostOk
          have : Bs.all (okBlk R W told out) = false := by
            cases h : Bs.all (okBlk R W told out) with
            | false => rfl
            | true =>
              have := List.all_eq_true.mp h (m, x) (List.mem_of_getElem? hb)
              rw [e] at this
              cases this
          rw [this]
          simp
        have z := k H' s
        rw [e2] at z
        exact z
      refine ⟨_, rfl, _, rfl, (by show 2 ≤ sizeLine; decide), fun u1 hu1 => ?_⟩
      have s2 := Same.new (H := H1) (o := .tup [.int told, .int m]) hu1
      have s02 := s1.trans s2
      refine ⟨_, rfl, p, dx, _, rfl, s02 _ _ h1, p, u1, R, told, m, rfl, hT.same s02, upd_same, _, rfl, _, rfl, ?_⟩
      generalize upd H1 u1 (.tup [.int told, .int m]) = H2 at s2 s02
      by_cases c1 : inT R told m = true
      case neg =>
        have c1' : inT R told m = false := by simpa using c1
        rw [c1']
        exact iteT (iteT (bad (by unfold okBlk; rw [c1']; rfl) _ s02))
      rw [c1]
      refine iteF ?_
      refine ⟨_, rfl, _, rfl, (by show 2 ≤ sizeLine; decide), fun u2 hu2 => ?_⟩
      have s3 := Same.new (H := H2) (o := .tup [.int x, .int m]) hu2
      have s03 := s02.trans s3
      refine ⟨_, rfl, p, dx, _, rfl, s03 _ _ h1, p, u2, R, x, m, rfl, hT.same s03, upd_same, _, rfl, _, rfl, ?_⟩
      generalize upd H2 u2 (.tup [.int x, .int m]) = H3 at s3 s03
      by_cases c2 : inT R x m = true
      case neg =>
        have c2' : inT R x m = false := by simpa using c2
        rw [c2']
        exact iteT (iteT (bad (by unfold okBlk; rw [c2']; simp) _ s03))
      rw [c2]
      refine iteF ?_
      refine ⟨_, rfl, _, rfl, (by show 2 ≤ sizeLine; decide), fun u3 hu3 => ?_⟩
      have s4 := Same.new (H := H3) (o := .tup [.int x, .int out]) hu3
      have s04 := s03.trans s4
      refine ⟨_, rfl, q, dx', _, rfl, s04 _ _ g1, q, u3, W, x, out, rfl, hT2.same s04, upd_same, _, rfl, _, rfl, ?_⟩
      generalize upd H3 u3 (.tup [.int x, .int out]) = H4 at s4 s04
      by_cases c3 : inT W x out = true
      · rw [c3]
        exact iteT (bad (by unfold okBlk; rw [c3]; simp) _ s04)
      have c3' : inT W x out = false := by simpa using c3
      rw [c3']
      refine iteF ⟨s04, ?_, _, _, rfl⟩
      rw [take_more hb, List.all_append, hall]
      simp [okBlk, c1, c2, c3']
    · rintro σ H1 ⟨s1, hall, v6, v7, rfl⟩
      rw [lB, List.take_length] at hall
      refine ⟨_, rfl, l, rfl, ⟨_, SqL.of (s1 _ _ hl)⟩, fun D hD => ?_⟩
      refine lc_list (K := K) (a := l) (xs := ls) (fun i H' => Same H1 H' ∧ H' D = some (.lst (vI ((Bs.take i).map (·.1))))) ⟨Same.new hD, upd_same⟩ (fun i H' _ ⟨s, _⟩ => SqL.of (s _ _ (s1 _ _ hl))) ?_ ?_
      · rintro i y H2 hi ⟨s2, hd⟩
        obtain ⟨⟨m, x⟩, hb, tt, rfl, htt⟩ := L2.Paired.at (PairsT.same (s1.trans s2) hP) hi
        refine ⟨tt, _, rfl, SqT.of htt, rfl, _, _, rfl, _, _, rfl, rfl, ?_⟩
        refine ⟨rfl, yesT (iteT ?_)⟩
        refine ⟨_, rfl, _, hd, ?_, Same.updN s2 hD, ?_⟩
        · rw [vI_len, List.length_map]
          exact Nat.lt_of_le_of_lt (Nat.le_trans (List.length_take_le' _ _) b8) (by decide)
        · rw [upd_same, take_more hb, List.map_append]
          unfold vI
          rw [List.map_append]
          rfl
      · rintro H2 ⟨s2, hd⟩
        rw [lB, List.take_length] at hd
        have s02 := s1.trans s2
        obtain ⟨j, hj, rfl, hjo⟩ := inT_iff.mp c0
        have hx : R[j]? = some (row R j) := at_row (by omega)
        refine ⟨_, rfl, _, rfl, p, dx, _, rfl, s02 _ _ h1, p, R, j, row R j, rfl, hT.same s02, hx, fun H3 d s3 d0 hd3 => ?_⟩
        refine ⟨d, rfl, ⟨_, SqL.of hd3⟩, fun D2 hD2 => ?_⟩
        refine lc_list (K := K) (a := d) (xs := vI (row R j)) (fun i H' => Same H3 H' ∧ H' D2 = some (.lst (((row R j).take i).map fun m => V.bl (decide (m ∈ Bs.map (·.1)))))) ⟨Same.new hD2, upd_same⟩ (fun i H' _ ⟨s, _⟩ => SqL.of (s _ _ hd3)) ?_ ?_
        · rintro i y H4 hi ⟨s4, hd4⟩
          obtain ⟨m, hm, rfl⟩ := vI_at hi
          refine ⟨rfl, yesT (iteT ?_)⟩
          refine ⟨_, rfl, _, rfl, D, _, rfl, .inl (SqL.of ((s3.trans s4) _ _ hd)), rfl, flat_vI _, ?_⟩
          refine ⟨_, hd4, ?_, Same.updN s4 hD2, ?_⟩
          · rw [List.length_map]
            have := h9 _ (List.mem_of_getElem? hx)
            exact Nat.lt_of_le_of_lt (Nat.le_trans (List.length_take_le' _ _) this) (by decide)
          · rw [upd_same, take_more hm, List.map_append, if_neg Bool.false_ne_true, inV_vI]
            rfl
        · rintro H4 ⟨s4, hd4⟩
          rw [vI_len, List.take_length] at hd4
          refine ⟨D2, (row R j).map (fun m => decide (m ∈ Bs.map (·.1))), rfl, SqL.of (by rw [hd4, List.map_map]; rfl), ?_⟩
          have e : lostOk R W (j : Int) out Bs = ((row R j).map (fun m => decide (m ∈ Bs.map (·.1)))).all id := by
            unfold lostOk
            rw [c0, hall, List.all_map, Int.toNat_natCast]
            rfl
          rw [← e]
          exact k H4 (s02.trans (s3.trans s4))
end
end Toy
namespace Toy
open PySem L2
abbrev sIsInt : Stmt := top 29
abbrev sIsWords : Stmt := top 31
def spIsInt : Sp := fun vs H Q _ => ∃ x : Int, vs = [.int x] ∧ Q (.bl true) H
def spIsWords : Sp := fun vs H Q _ => ∃ (l : Addr) (ws : List Int), vs = [.ref l] ∧ H l = some (.lst (vI ws)) ∧ Q (.bl true) H
section
variable {P : Program} {w : World} {K : PySem.W.Frag} {mg : Str → Option Value} {base : Heap}
theorem scIsInt : FnScope ["_law_value"] ["_law_value"] (defScope sIsInt) := ⟨rfl, rfl, rfl, by decide +kernel, rfl, by decide +kernel, by decide +kernel⟩
theorem ok_isInt {f : Addr} {fd : FuncData} (F : Fun K "_law_is_int" "_law_is_int" sIsInt f fd) (B : Bt mg) : FnOk P w K mg base CX0 1 f fd ["_law_value"] spIsInt := by
  refine F.ok scIsInt (fun vs H Q E h => ?_) (fun cdv A outer s H vs Q E hr h => ?_)
  · obtain ⟨x, rfl, _⟩ := h
    rfl
  · obtain ⟨x, rfl, k⟩ := h
    refine ⟨_, pss_one (ps_ret (pe_and (pe_callB call_isi (by rfl) B.isinstance (by decide +kernel) (pa_cons (pv 0) (pa_cons (pe_bltn (v := .ty "int") (u := .type "int") (by rfl) B.int (by decide +kernel) rfl) pa_nil)))
      (pe_one (pe_not (pe_callB call_isi (by rfl) B.isinstance (by decide +kernel) (pa_cons (pv 0) (pa_cons (pe_bltn (v := .ty "bool") (u := .type "bool") (by rfl) B.bool (by decide +kernel) rfl) pa_nil))))))), ?_⟩
    refine ⟨_, rfl, _, _, .type "int", _, true, rfl, .ty "int", .base (.int x), kit_ty (by decide +kernel), true, rfl, iteT ?_⟩
    refine ⟨_, rfl, _, _, .type "int", _, false, rfl, .ty "bool", .base (.int x), kit_ty (by decide +kernel), false, rfl, k⟩
theorem scIsWords : FnScope ["_law_value", "_law_one"] ["_law_value"] (defScope sIsWords) := ⟨rfl, rfl, rfl, by decide +kernel, rfl, by decide +kernel, by decide +kernel⟩
theorem ok_isWords {f g : Addr} {fd fdg : FuncData} (F : Fun K "_law_is_words" "_law_is_words" sIsWords f fd) (B : Bt mg) (G : Fun K "_law_is_int" "_law_is_int" sIsInt g fdg) (mgG : mg "_law_is_int" = some (.ref g)) (bG : Binds K fdg ["_law_value"] []) :
    FnOk P w K mg base CX0 2 f fd ["_law_value"] spIsWords := by
  refine F.ok scIsWords (fun vs H Q E h => ?_) (fun cdv A outer s H vs Q E hr h => ?_)
  · obtain ⟨l, ws, rfl, _⟩ := h
    rfl
  · obtain ⟨l, ws, rfl, hl, k⟩ := h
    refine ⟨_, pss_cons (ps_if (pt_not (pt_val (pe_callB call_isi (by rfl) B.isinstance (by decide +kernel) (pa_cons (pv 0) (pa_cons (pe_bltn (v := .ty "list") (u := .type "list") (by rfl) B.list (by decide +kernel) rfl) pa_nil))))) (pss_one ps_never) pss_nil)
      (pss_cons (ps_for PassesOwn.never rfl (pi_list (pv 0)) (pg_name (i := 1) scIsWords.nd rfl (Or.inl rfl)) (pss_one (ps_if (pt_not (pt_val (pe_call (ok_isInt G B) hr rfl mgG G.kp bG .nil pass0 (pa_cons (pv 1) pa_nil)))) (pss_one ps_never) pss_nil)))
      (pss_one (ps_ret pe_bl))), ?_⟩
    refine ⟨_, rfl, _, _, .type "list", _, true, rfl, .ty "list", .base (.lst hl), kit_ty (by decide +kernel), _, rfl, iteF ?_⟩
    refine ⟨_, rfl, l, rfl, ⟨_, SqL.of hl⟩, for_list (K := K) (a := l) (xs := vI ws) (fun i σ H' => H' = H ∧ ∃ v, σ = [some (.ref l), v]) ⟨rfl, none, rfl⟩ (fun i σ H' _ ⟨e, _⟩ => by rw [e]; exact SqL.of hl) ?_ ?_⟩
    · rintro i y σ H' hi ⟨rfl, v, rfl⟩
      obtain ⟨x, hx, rfl⟩ := vI_at hi
      exact ⟨_, rfl, x, rfl, _, rfl, iteF ⟨rfl, _, rfl⟩⟩
    · rintro σ H' ⟨rfl, v, rfl⟩
      exact k
end
end Toy
namespace Toy
open PySem L2
abbrev sSame : Stmt := top 32
def spSame (C : Addr) : Sp := fun vs H Q _ => ∃ (p l : Addr) (ls : List V) (R : List (List Int)), vs = [.ref p, .ref l] ∧ Tab C H p R ∧ H l = some (.lst ls) ∧ RowsL H ls R ∧ ∀ H', Same H H' → Q (.bl true) H'
section
variable {P : Program} {w : World} {K : PySem.W.Frag} {mg : Str → Option Value} {base : Heap}
structure Vt (K : PySem.W.Frag) (mg : Str → Option Value) (C : Addr) : Prop where
  G : Gs K mg C
  I : C8.InsC K C
  isInt : ∃ f fd, Fun K "_law_is_int" "_law_is_int" sIsInt f fd ∧ mg "_law_is_int" = some (.ref f) ∧ Binds K fd ["_law_value"] []
  isWords : ∃ f fd, Fun K "_law_is_words" "_law_is_words" sIsWords f fd ∧ mg "_law_is_words" = some (.ref f) ∧ Binds K fd ["_law_value"] []
  rows : ∃ f fd, Fun K "rows" "Table.rows" sRows f fd ∧ Meth K C "rows" f ∧ Binds K fd ["self"] []
theorem scSame : FnScope ["_law_table", "_law_rows_here", "_law_told", "_law_k"] ["_law_table", "_law_rows_here"] (defScope sSame) := ⟨rfl, rfl, rfl, by decide +kernel, rfl, by decide +kernel, by decide +kernel⟩
theorem ok_same {f C : Addr} {fd : FuncData} (F : Fun K "_law_same" "_law_same" sSame f fd) (S : Vt K mg C) : FnOk P w K mg base CX0 3 f fd ["_law_table", "_law_rows_here"] (spSame C) := by
  obtain ⟨fI, fdI, FI, mI, bI⟩ := S.isInt
  obtain ⟨fW, fdW, FW, mW, bW⟩ := S.isWords
  obtain ⟨fR, fdR, FR, mR, bR⟩ := S.rows
  have B := S.G.B
  refine F.ok scSame (fun vs H Q E h => ?_) (fun cdv A outer s H vs Q E hr h => ?_)
  · obtain ⟨p, l, ls, R, rfl, _⟩ := h
    rfl
  · obtain ⟨p, l, ls, R, rfl, hT, hl, hR, k⟩ := h
    obtain ⟨dx, tr, tp, ts, qs, h1, h2, h3, h4, h5, h6, h7, h8, h9⟩ := id hT
    have hr1 : Room 1 _ := hr.mono (by decide)
    refine ⟨_, pss_cons (ps_if (PW.pt (pw_or (pt_not (pt_val (pe_callB (C8.call_isC S.I) (by rfl) B.isinstance (by decide +kernel) (pa_cons (pv 0) (pa_cons (pe_glob rfl S.G.T.mgC (v := .ref C) rfl) pa_nil)))))
        (pw_or (pt_not (pt_val (pe_call (ok_isInt FI B) hr1 rfl mI FI.kp bI .nil pass0 (pa_cons (pe_fld (pv 0) rfl) pa_nil))))
          (pw_or1 (pt_cmpR op_ne (pe_fld (pv 0) rfl) (pe_callB call_len_seq (by rfl) B.len PySem.boot_len (pa_cons (pv 1) pa_nil)) (nomark _)))))) (pss_one ps_never) pss_nil)
      (pss_cons (ps_set (i := 2) scSame.nd rfl (Or.inl rfl) (pe_meth0 (pv 0) S.G.T.cl mR (ok_rows FR S.G) hr1 bR .nil pass0))
      (pss_cons (ps_if (PW.pt (pw_or (pt_not (pt_val (pe_callB call_isi (by rfl) B.isinstance (by decide +kernel) (pa_cons (pv 2) (pa_cons (pe_bltn (v := .ty "list") (u := .type "list") (by rfl) B.list (by decide +kernel) rfl) pa_nil)))))
          (pw_or1 (pt_cmpR op_ne (pe_callB call_len_seq (by rfl) B.len PySem.boot_len (pa_cons (pv 2) pa_nil)) (pe_callB call_len_seq (by rfl) B.len PySem.boot_len (pa_cons (pv 1) pa_nil)) (nomark _))))) (pss_one ps_never) pss_nil)
      (pss_cons (ps_for PassesOwn.never rfl (pi_range1 (by rfl) B.range (pa_cons (pe_callB call_len_seq (by rfl) B.len PySem.boot_len (pa_cons (pv 1) pa_nil)) pa_nil)) (pg_name (i := 3) scSame.nd rfl (Or.inl rfl))
        (pss_one (ps_if (PW.pt (pw_or (pt_not (pt_val (pe_call (ok_isWords FW B FI mI bI) hr rfl mW FW.kp bW .nil pass0 (pa_cons (pe_ix ix_list (pv 2) (pv 3) (fun _ _ => rfl)) pa_nil))))
          (pw_or1 (pt_cmpR (op_neD hr.units) (pe_ix ix_list (pv 2) (pv 3) (fun _ _ => rfl)) (pe_ix ix_list (pv 1) (pv 3) (fun _ _ => rfl)) (nomark _))))) (pss_one ps_never) pss_nil)))
      (pss_one (ps_ret pe_bl))))), ?_⟩
    have eL : ls.length = R.length := Paired.length hR
    refine ⟨_, rfl, p, dx, _, rfl, h1, _, rfl, iteF ?_⟩
    refine ⟨_, rfl, p, C, dx, _, _, rfl, h1, S.G.T.cl, S.G.T.nS, tf_size _ _ _, _, rfl, _, rfl, iteF ?_⟩
    refine ⟨_, rfl, p, C, dx, _, _, rfl, h1, S.G.T.cl, S.G.T.nS, tf_size _ _ _, _, rfl, l, _, rfl, .inl (SqL.of hl), rfl, _, rfl, iteNS (by rw [eL]) ?_⟩
    refine ⟨_, rfl, p, dx, _, rfl, h1, tf_rows' _ _ _, p, R, rfl, hT, fun H1 l2 ls2 s1 l20 hl2 hR2 => ?_⟩
    have hl1 := s1 _ _ hl
    have eL2 : ls2.length = R.length := Paired.length hR2
    refine ⟨_, rfl, _, _, .type "list", _, true, rfl, .ty "list", .base (.lst hl2), kit_ty (by decide +kernel), _, rfl, iteF ?_⟩
    refine ⟨_, rfl, l2, _, rfl, .inl (SqL.of hl2), _, rfl, l, _, rfl, .inl (SqL.of hl1), rfl, _, rfl, iteNS (by rw [eL, eL2]) ?_⟩
    refine ⟨_, rfl, l, _, rfl, .inl (SqL.of hl1), (ls.length : Int), rfl, by omega, by omega, ?_⟩
    refine for_range (lo := 0) (n := ls.length) (fun i σ H' => H' = H1 ∧ ∃ v, σ = [some (.ref p), some (.ref l), some (.ref l2), v]) ⟨rfl, none, rfl⟩ ?_ ?_
    · rintro i σ H' hi ⟨rfl, v, rfl⟩
      obtain ⟨r, hr0⟩ : ∃ r, R[i]? = some r := ⟨_, List.getElem?_eq_getElem (by omega)⟩
      obtain ⟨u1, g1, t1, rfl, q1, _⟩ := L2.Paired.at2 hR2 hr0
      obtain ⟨u2, g2, t2, rfl, q2⟩ := L2.Paired.at2 (RowsL.same s1 hR) hr0
      refine ⟨_, rfl, _, rfl, l2, _, _, _, rfl, rfl, SqL.of hl2, at_of (j := i) (by omega) g1, t1, r, rfl, q1, _, rfl, iteF ?_⟩
      refine ⟨_, rfl, _, rfl, l2, _, _, _, rfl, rfl, SqL.of hl2, at_of (j := i) (by omega) g1, _, rfl, _, rfl, l, _, _, _, rfl, rfl, SqL.of hl1, at_of (j := i) (by omega) g2, _, _, dpI (SqL.of q1), dpI (SqL.of q2), shI r, shI r, _, rfl, ?_⟩
      rw [eqI, decide_eq_true rfl]
      exact iteF ⟨rfl, _, rfl⟩
    · rintro σ H' ⟨rfl, v, rfl⟩
      exact k _ s1
end
end Toy
namespace Toy
open PySem PySem.Spec PyProof.Rows L2
abbrev sEqT : Stmt := inClass sTable 23
def dRT (R : List (List Int)) : List PyData := R.map fun r => .tuple (dI r)
theorem eqv_dRT : ∀ a b : List (List Int), PyData.eqvAll (dRT a) (dRT b) = decide (a = b)
  | [], [] => by simp [dRT, PyData.eqvAll]
  | [], _ :: _ => by simp [dRT, PyData.eqvAll]
  | _ :: _, [] => by simp [dRT, PyData.eqvAll]
  | x :: a, y :: b => by
    have ih := eqv_dRT a b
    show PyData.eqvAll (.tuple (dI x) :: dRT a) (.tuple (dI y) :: dRT b) = _
    rw [PyData.eqvAll, PyData.eqv, ih, eqv_dI]
    by_cases h : x = y
    · subst h
      simp
    · simp [h]
theorem lay_dRT : ∀ a : List (List Int), PyData.canLayAll0 (dRT a) = true ∧ PyData.depthAll (dRT a) ≤ 1
  | [] => ⟨rfl, by decide⟩
  | x :: a => by
    have ⟨h1, h2⟩ := lay_dRT a
    constructor
    · show (PyData.canLayAll0 (dI x) && PyData.canLayAll0 (dRT a)) = true
      rw [h1, lay_dI]
      rfl
    · show max (PyData.depthAll (dI x) + 1) (PyData.depthAll (dRT a)) ≤ 1
      rw [dep_dI]
      omega
theorem shRT (a : List (List Int)) : SeqAt.shaped (.tuple (dRT a)) = true := by
  have ⟨h1, h2⟩ := lay_dRT a
  show (PyData.canLayAll0 (dRT a) && decide (PyData.depthAll (dRT a) + 1 ≤ 64)) = true
  rw [h1, decide_eq_true (by omega)]
  rfl
theorem eqRT (a b : List (List Int)) : PyData.eqv (.tuple (dRT a)) (.tuple (dRT b)) = decide (a = b) := by rw [PyData.eqv, eqv_dRT]
theorem dpAllRT {K : PySem.W.Frag} {H : Hp} : ∀ {ts : List V} {R : List (List Int)}, RowsT H ts R → DpAll K H ts (dRT R)
  | _, _, .nil => .nil
  | _, _, .cons ⟨t, e, q⟩ r => .cons (by rw [e]; exact dpT (SqT.of q)) (dpAllRT r)
def spEqT (C : Addr) : Sp := fun vs H Q _ => ∃ (p q : Addr) (R W : List (List Int)), vs = [.ref p, .ref q] ∧ Tab C H p R ∧ Tab C H q W ∧ Q (.bl (decide (R = W))) H
section
variable {P : Program} {w : World} {K : PySem.W.Frag} {mg : Str → Option Value} {base : Heap}
theorem scEqT : FnScope ["self", "other"] ["self", "other"] (defScope sEqT) := ⟨rfl, rfl, rfl, by decide +kernel, rfl, by decide +kernel, by decide +kernel⟩
theorem ok_eqT {f C : Addr} {fd : FuncData} (F : Fun K "__eq__" "Table.__eq__" sEqT f fd) (S : Gs K mg C) (I : C8.InsC K C) : FnOk P w K mg base CX0 1 f fd ["self", "other"] (spEqT C) := by
  have B := S.B
  refine F.ok scEqT (fun vs H Q E h => ?_) (fun cdv A outer s H vs Q E hr h => ?_)
  · obtain ⟨p, q, R, W, rfl, _⟩ := h
    rfl
  · obtain ⟨p, q, R, W, rfl, hT, hT2, k⟩ := h
    obtain ⟨dx, tr, tp, ts, qs, h1, h2, h3, h4, _⟩ := id hT
    obtain ⟨dx', tr', tp', ts', qs', g1, g2, g3, g4, _⟩ := id hT2
    refine ⟨_, pss_one (ps_ret (pe_and (pe_callB (C8.call_isC I) (by rfl) B.isinstance (by decide +kernel) (pa_cons (pv 1) (pa_cons (pe_glob rfl S.T.mgC (v := .ref C) rfl) pa_nil))) (pe_one (pe_cmpR (op_eqD hr.units) (pe_fld (pv 0) rfl) (pe_fld (pv 1) rfl) (nomark _))))), ?_⟩
    refine ⟨_, rfl, q, dx', _, rfl, g1, true, rfl, ?_⟩
    refine ⟨_, rfl, p, C, dx, _, _, rfl, h1, S.T.cl, S.T.nR, tf_rows _ _ _, _, rfl, q, C, dx', _, _, rfl, g1, S.T.cl, S.T.nR, tf_rows _ _ _, _, _, .tup (SqT.of h3) (dpAllRT h4), .tup (SqT.of g3) (dpAllRT g4), shRT _, shRT _, ?_⟩
    rw [eqRT]
    exact k
end
end Toy
namespace ItY
open PySem PySem.Spec PyProof.Rows L2 ItX
/-- an iterator over the tuple at t, ahead of its first item -/
abbrev itT (t : Addr) : Obj := { cls := .type "tuple_iterator", data := .fields #[.ref t, .int 0 0] }
/-- such an iterator stands at it, which is not below n -/
def ItT (t it : Addr) : HO := .ext fun h => h.get? it = some (itT t)
theorem itT_ok {P : Program} {w : World} {H : Hp} {h : Heap} {t it : Addr} (e : h.get? it = some (itT t)) : ObjOk P w H h it (ItT t it) := ⟨e, ⟨_, e⟩, fun _ _ q k => k _ q⟩
section
variable {prog : Program} {w : World} {A : Around} {E : Value → Shared → Prop} {s : Shared} {t : Addr} {its : Array Value}
theorem call_iter_t {Q : Value → Shared → Prop} (ht : s.heap.IsTuple t its) (q : Q (.ref s.heap.objs.size) { s with heap := s.heap.push (itT t) }) : wpAny (model prog w) A (call (.builtin "iter") [.ref t]) Q E s := by
  refine Calls.call_function_entry (by decide +kernel) (by decide +kernel) PySem.W.kdk_entry_iter (PySem.W.kdk_args_iter _) ?_
  unfold Builtin.«iter»
  have one : ∀ A' : Around, wpAny (model prog w) A' (pyIter (.ref t)) (fun v s' => v = .ref s.heap.objs.size ∧ s' = { s with heap := s.heap.push (itT t) }) E s := fun A' => wpAny_pyIter_tuple ht ⟨rfl, rfl⟩
  refine wpAny_bind (m := someArgs "iter" 1 2 _) (wpAny_of_eq (a := [Value.ref t]) (by first | rfl | kernel_rfl!) ?_)
  change wpAny _ _ (pyIter (.ref t) >>= _) _ _ s
  refine wpAny_bind (wpAny_mono (one _) (fun v s' z => ?_) fun _ _ z => z)
  obtain ⟨rfl, rfl⟩ := z
  exact wpAny_pure ⟨_, rfl, q⟩
end
/-- iter(t), t a tuple: the iterator is new, and younger than the frame -/
def rIterT (K : PySem.W.Frag) (n : Nat) : List V → Hp → VK → Prop := fun xs H Q => ∃ (t : Addr) (zs : List V), xs = [.ref t] ∧ SqT K H t zs ∧ ∀ it, H it = none → n ≤ it → Q (.ref it) (upd H it (ItT t it))
theorem call_iterT {X : Cx} : CallR X (.builtin "iter") (rIterT X.K X.s_0.heap.objs.size) := by
  intro pins s σ H xs us Q I r h
  obtain ⟨t, zs, rfl, hq, q⟩ := h
  obtain rfl := Vals.ref1 r
  obtain ⟨its, rv, pt, hz⟩ := I.tuple hq
  exact call_iter_t (its := its.toArray) (show s.heap.IsTuple t its.toArray from pt) ⟨.ref s.heap.objs.size, _, I.laid (t' := s.toks) (fun b u e => Heap.get?_push_of_some _ e) (Nat.le_refl _) (itT_ok (Heap.get?_push_size _ rfl)), rfl, q _ (I.hok.fresh (Nat.le_refl _)) I.sz⟩
/-- one run of a def, its state s in sight -/
theorem run_at {CX : CXT} {P : Program} {w : World} {K : PySem.W.Frag} {mg : Str → Option Value} {base : Heap} {k : Nat} {f : Addr} {nm qual : Str} {pars : Arguments} {bd : List Stmt} {sc : Scope} {dV kV doc pm cdv ct oc : Value} {an od : Option Addr} {osl : Array (Option Value)} {N ps : List Str}
    (lk : K.lookup f = some ⟨oc, od, .func (PySem.W.fnOf nm qual pars bd sc dV kV doc pm an cdv ct), osl⟩) (hcd : PySem.W.codeIn K cdv qual = true) (S : FnScope N ps sc)
    {A : Around} {outer : List Env} {s : Shared} {H : Hp} {us : List Value} {vs : List V} {Q : VK} {E : XK} (hr : Room (k + 1) A) (e0 : Env0 P w K mg base A outer s H) (hb : BindsTo s (PySem.W.fnOf nm qual pars bd sc dV kV doc pm an cdv ct) ⟨us, []⟩ (ps.zip us)) (r : Vals vs us) (hl : vs.length = ps.length)
    (h : ∃ t, PSs (cxOf CX P w K mg base N qual sc f cdv A outer s H E) bd t ∧ t { nx := fun _ H' => Q .non H', rt := Q } (start N vs) H) : codeAny (model P w) A (.call (.ref f) ⟨us, []⟩) (CR CX outer P w H s Q E) s := by
  have old : ∀ b o, base.get? b = some o → s.heap.get? b = some o := fun b o e => (e0.bs b o e).1
  obtain ⟨t, ht, q⟩ := h
  have places : ∀ y ∈ ps.zip us, sc.names.lookup y.1 = some .local ∨ (sc.names.lookup y.1 = some .cell ∧ ((cellsFrom (s.heap.objs.size + 1) sc.names []).lookup y.1).isSome = true) := by
    rintro ⟨n, v⟩ hy
    exact (S.par n (List.of_mem_zip hy).1).imp id fun c => ⟨c, PySem.W.cellsFrom_some _ _ _ (.inl c)⟩
  refine codeAny_call_function hr.depth ((e0.mod.kin.keeps old) _ _ lk) rfl S.co S.gen rfl (PySem.W.codeRec_of (e0.mod.kin.keeps old) hcd) (hb _ _ _ _ (wpAny_newFunctionEnv_cells S.kind places fun env he s1 x => ?_))
  subst he
  refine ⟨(e0.mod.nolimit.keeps old).keeps x.toInCall.keep, codeAny_func (wpAny_mono (ht.run [] s1 (start N vs) H _ (inv_start S hr.hd e0 hl r x) q) (fun fl s' z => ?_) fun _ _ z => z)⟩
  match fl, z with
  | .ret u, ⟨v, σ', H', J, rv, y⟩ => exact ⟨v, H', J.os, J.bare, J.base, J.hok, rv, y⟩
  | .next, ⟨σ', H', J, y⟩ => exact ⟨.non, H', J.os, J.bare, J.base, J.hok, rfl, y⟩
  | .brk, ⟨_, _, _, y⟩ => exact y.elim
  | .cont, ⟨_, _, _, y⟩ => exact y.elim
end ItY
namespace Toy
open PySem PySem.Spec PyProof.Rows L2 ItX ItY
abbrev sIter : Stmt := inClass sTable 20
section
variable {P : Program} {w : World} {K : PySem.W.Frag} {mg : Str → Option Value} {base : Heap}
theorem scIter : FnScope ["self"] ["self"] (defScope sIter) := ⟨rfl, rfl, rfl, by decide +kernel, rfl, by decide +kernel, by decide +kernel⟩
/-- what __iter__ gives, s the state of the call -/
def QIt (s : Shared) (H : Hp) (tp : Addr) : VK := fun v H' => ∃ it, v = .ref it ∧ H it = none ∧ s.heap.objs.size ≤ it ∧ H' = upd H it (ItT tp it)
theorem iter_at {f C p dx tr tp : Addr} {fd : FuncData} {R : List (List Int)} {qs : List V} (F : Fun K "__iter__" "Table.__iter__" sIter f fd) (T : CT K mg C) (mIt : mg "iter" = none)
    {A : Around} {outer : List Env} {s : Shared} {H : Hp} (hr : Room 1 A) (e0 : Env0 P w K mg base A outer s H) (hb : BindsTo s fd ⟨[.ref p], []⟩ [("self", .ref p)]) (h1 : H p = some (.ins C dx (tf R.length tr tp))) (h5 : H tp = some (.tup qs)) :
    codeAny (model P w) A (.call (.ref f) ⟨[.ref p], []⟩) (CR CX0 outer P w H s (QIt s H tp) E0) s := by
  obtain ⟨oc, od, kV, doc, pm, an, cdv, ct, osl, rfl, lk, hcd⟩ := F.ex
  refine run_at (ps := ["self"]) (us := [.ref p]) (vs := [.ref p]) lk hcd scIter hr e0 hb (.cons rfl .nil) rfl ⟨_, pss_one (ps_ret (pe_callB call_iterT (by rfl) mIt (by decide +kernel) (pa_cons (pe_fld (pv 0) rfl) pa_nil))), ?_⟩
  exact ⟨_, rfl, p, C, dx, _, _, rfl, h1, T.cl, T.nP, tf_pairs _ _ _, tp, qs, rfl, SqT.of h5, fun it n0 le => ⟨it, rfl, n0, le, rfl⟩⟩
end
/-- a walk over the pairs of a table -/
def iTab (K : PySem.W.Frag) (C : Addr) (te : TE) : TI := fun σ H R => te σ H fun x H1 => ∃ p dx tr tp n qs, x = .ref p ∧ H1 p = some (.ins C dx (tf n tr tp)) ∧ H1 tp = some (.tup qs) ∧ R (Itt K tp) H1
theorem pi_tab {X : Cx} {tg e : Expr} {te : TE} {f C : Addr} {fd : FuncData} (F : Fun X.K "__iter__" "Table.__iter__" sIter f fd) (T : CT X.K X.mg C) (mIt : X.mg "iter" = none) (hb : Binds X.K fd ["self"] []) (hs : PySem.W.findIn X.K (.ref C) "__iter__" = some (some (.ref f))) (hf : PySem.W.isFn X.K (.ref f) = true)
    (hr : Room 1 X.A) (he : PE X e te) : PI X tg e (iTab X.K C te) := by
  refine ⟨fun pins s σ H R I h => thn (he.run pins s σ H _ I h) fun v s1 ⟨x, H1, I1, r1, p, dx, tr, tp, n, qs, ex, h1, h5, q⟩ => ?_⟩
  subst ex
  cases r1
  obtain ⟨mA, O, _⟩ := ins_get I1.hok h1
  obtain ⟨od, J, _⟩ := O.look
  obtain ⟨m, hF⟩ := I1.fr
  refine PySem.W.owit_iter hF I1.ok.mod.kin J hs hf ?_
  have bnd : BindsTo s1 fd ⟨[.ref p], []⟩ [("self", .ref p)] := hb s1 [.ref p] I1.kIn rfl
  refine wpAny_call (codeAny_mono (iter_at (R := List.replicate n []) F T mIt hr I1.env0 bnd (by rw [List.length_replicate]; exact h1) h5) fun r s' hq => ?_)
  cases r with
  | error er => exact False.elim hq
  | ok fl =>
    cases fl with
    | ret u =>
      obtain ⟨v2, H2, I2, r2, it, rfl, n0, le, rfl⟩ := I1.after hq
      cases r2
      have g : s'.heap.get? it = some (itT tp) := (I2.hok it _ upd_same).1
      unfold PySem.W.OwitIt
      refine wpAny_specialOf (name := Str.ofString "__next__") (T := "tuple_iterator") ⟨_, g, rfl⟩ PySem.F.slot_tuple_iterator_next.lookup ?_
      have hd := inv_drop I2 (a := it) (φ := fun h => h.get? it = some (itT tp)) upd_same
      have hp := inv_fp I2 (a := it) upd_same (Nat.le_trans I1.sz le)
      rw [dropH_upd n0] at hd hp
      have fp : ∀ b ∈ [it], FpOk X pins H1 b := fun b hb' => by
        rw [show b = it by simpa using hb']
        exact hp
      exact ⟨it, [it], _, _, H1, rfl, hd, turn_tuple tp it, ⟨_, g, rfl, rfl⟩, fp, q⟩
    | next => exact False.elim hq
    | brk => exact False.elim hq
    | cont => exact False.elim hq
end Toy
namespace Toy
open PySem PySem.Spec PyProof.Rows L2
abbrev sFur : Stmt := top 19
abbrev sLost : Stmt := top 20
abbrev sMissing : Stmt := top 18
abbrev sOther : Stmt := top 21
theorem iteNo {p : Prop} [Decidable p] {A B : Prop} (h : ¬ p) (b : B) : if decide p = true then A else B := by rw [decide_eq_false h]; exact iteF b
theorem iteYes {p : Prop} [Decidable p] {A B : Prop} (h : p) (a : A) : if decide p = true then A else B := by rw [decide_eq_true h]; exact iteT a
theorem iteNoN {p : Prop} [Decidable p] {A B : Prop} (h : ¬ p) (a : A) : if (!decide p) = true then A else B := by rw [decide_eq_false h]; exact iteT a
theorem iteYesN {p : Prop} [Decidable p] {A B : Prop} (h : p) (b : B) : if (!decide p) = true then A else B := by rw [decide_eq_true h]; exact iteF b
theorem le_anti {n : Nat} {A B : List (List Int)} (cA : CanR n A) (cB : CanR n B) (h1 : le A B = true) (h2 : le B A = true) : A = B := by
  refine rows_ext (cA.1.trans cB.1.symm) fun j hj => ?_
  rw [cA.1] at hj
  rw [← show asc (row A j) n = row A j from cA.row hj, ← show asc (row B j) n = row B j from cB.row hj]
  exact asc_congr fun o _ => ⟨fun h => (le_iff cA.1 cB.1).mp h1 j hj _ h, fun h => (le_iff cB.1 cA.1).mp h2 j hj _ h⟩
theorem mul_at {n : Nat} {A B : List (List Int)} (cA : CanR n A) (cB : CanR n B) {i j : Nat} (hi : i < n) (hj : j < n) : ((j : Int) ∈ row (mul A B) i) ↔ ∃ m : Nat, m < n ∧ (m : Int) ∈ row A i ∧ (j : Int) ∈ row B m := by
  rw [mul_row (by rw [cA.1]; exact hi), asc_iff, cat_mem, cB.1]
  constructor
  · rintro ⟨_, x, hx, h⟩
    have b := (cA.row hi).mem hx
    exact ⟨x.toNat, by omega, by rw [show ((x.toNat : Nat) : Int) = x by omega]; exact hx, h⟩
  · rintro ⟨m, hm, h1, h2⟩
    exact ⟨hj, (m : Int), h1, by rw [Int.toNat_natCast]; exact h2⟩
theorem mul_canN {n : Nat} {A B : List (List Int)} (cA : CanR n A) (cB : CanR n B) : CanR n (mul A B) := by have := mul_can (F := A) (X := B) (cA.1.trans cB.1.symm); rw [cA.1] at this; exact this
theorem inv_at' {n : Nat} {R : List (List Int)} (cR : CanR n R) {i j : Nat} (hi : i < n) (hj : j < n) : ((i : Int) ∈ row (inv R) j) ↔ ((j : Int) ∈ row R i) := by
  rw [inv_row (by rw [cR.1]; exact hj), filt_mem, cR.1, decide_eq_true_iff]
  exact ⟨fun h => h.2, fun h => ⟨hi, h⟩⟩
theorem inv_canN {n : Nat} {R : List (List Int)} (cR : CanR n R) : CanR n (inv R) := by have := inv_can R; rw [cR.1] at this; exact this
theorem rsh_canN {n : Nat} {R W : List (List Int)} (cR : CanR n R) (cW : CanR n W) : CanR n (rsh R W) := by have := rsh_can (F := R) (W := W) (cR.1.trans cW.1.symm); rw [cR.1] at this; exact this
theorem rsh_at {n : Nat} {R W : List (List Int)} (cR : CanR n R) (cW : CanR n W) {m o : Nat} (hm : m < n) (ho : o < n) : ((o : Int) ∈ row (rsh R W) m) ↔ ∀ t : Nat, t < n → (m : Int) ∈ row R t → (o : Int) ∈ row W t := by
  rw [rsh_row (by rw [cR.1]; exact hm)]
  unfold outEach
  rw [filt_mem, cW.1, List.all_eq_true]
  constructor
  · intro ⟨_, h⟩ t ht hmt
    have := h (t : Int) ((inv_at' cR ht hm).mpr hmt)
    rw [decide_eq_true_iff, Int.toNat_natCast] at this
    exact this
  · refine fun h => ⟨ho, fun x hx => ?_⟩
    have b := ((inv_canN cR).row hm).mem hx
    rw [decide_eq_true_iff]
    refine h x.toNat (by omega) ?_
    rw [← inv_at' cR (by omega) hm, show ((x.toNat : Nat) : Int) = x by omega]
    exact hx
/-! ### why a pair is missing -/
def oth (n : Nat) (R W : List (List Int)) (m o : Int) : List Int := filt n fun t => decide (m ∈ row R t) && !decide (o ∈ row W t)
def blk (n : Nat) (R W : List (List Int)) (t : Nat) (o : Int) : List (Int × Int) := (row R t).map fun m => (m, (oth n R W m o).headD 0)
def shut (n : Nat) (R W : List (List Int)) (t : Nat) (o : Int) : Bool := (row R t).all fun m => !(oth n R W m o).isEmpty
theorem oth_empty {n : Nat} {R W : List (List Int)} {m o : Int} : (oth n R W m o).isEmpty = true ↔ ∀ t : Nat, t < n → m ∈ row R t → o ∈ row W t := by
  rw [List.isEmpty_iff]
  unfold oth filt
  rw [List.map_eq_nil_iff, List.filter_eq_nil_iff]
  constructor
  · intro h t ht hm
    have := h t (List.mem_range.mpr ht)
    rw [Bool.and_eq_true, decide_eq_true_iff] at this
    cases e : decide (o ∈ row W t) with
    | true => exact of_decide_eq_true e
    | false => exact absurd ⟨hm, by rw [e]; rfl⟩ this
  · intro h t ht z
    rw [Bool.and_eq_true, decide_eq_true_iff] at z
    rw [decide_eq_true (h t (List.mem_range.mp ht) z.1)] at z
    cases z.2
theorem shut_iff {n : Nat} {R W : List (List Int)} (cR : CanR n R) (cW : CanR n W) {t o : Nat} (ht : t < n) (ho : o < n) : shut n R W t (o : Int) = !inT (mul R (rsh R W)) (t : Int) (o : Int) := by
  have lM : (mul R (rsh R W)).length = n := by rw [mul_len, cR.1]
  rw [inT_word (by rw [lM]; exact ht), Bool.eq_iff_iff]
  unfold shut
  rw [List.all_eq_true, Bool.not_eq_true', decide_eq_false_iff_not, mul_at cR (rsh_canN cR cW) ht ho]
  constructor
  · rintro h ⟨m, hm, h1, h2⟩
    have := h _ h1
    rw [rsh_at cR cW hm ho, ← oth_empty (o := (o : Int))] at h2
    rw [h2] at this
    cases this
  · intro h x hx
    have b := (cR.row ht).mem hx
    have ex : ((x.toNat : Nat) : Int) = x := by omega
    cases e : (oth n R W x (o : Int)).isEmpty with
    | false => rfl
    | true => exact absurd ⟨x.toNat, by omega, by rw [ex]; exact hx, by rw [rsh_at cR cW (by omega) ho, ex]; exact oth_empty.mp e⟩ h
def fp (n : Nat) (R W : List (List Int)) : Option (Int × Int) := (prs 0 W).find? fun p => shut n R W p.1.toNat p.2
theorem prs_word {n : Nat} {W : List (List Int)} (cW : CanR n W) {p : Int × Int} (h : p ∈ prs 0 W) : ∃ t o : Nat, p = ((t : Int), (o : Int)) ∧ t < n ∧ o < n ∧ (o : Int) ∈ row W t := by
  obtain ⟨j, hj, e1, e2⟩ := prs_mem.mp h
  rw [cW.1] at hj
  have b := (cW.row hj).mem e2
  obtain ⟨a, c⟩ := p
  exact ⟨j, c.toNat, by rw [Prod.mk.injEq]; exact ⟨by have : a = ((0 + j : Nat) : Int) := e1; omega, by have : 0 ≤ c := b.1; show c = _; omega⟩, hj, by have : c < (n : Int) := b.2; have : 0 ≤ c := b.1; omega, by rw [show ((c.toNat : Nat) : Int) = c by have : 0 ≤ c := b.1; omega]; exact e2⟩
theorem find_congr {α : Type} {f g : α → Bool} : ∀ {xs : List α}, (∀ x ∈ xs, f x = g x) → xs.find? f = xs.find? g
  | [], _ => rfl
  | x :: xs, h => by
    rw [List.find?_cons, List.find?_cons, h x (by simp), find_congr fun y hy => h y (by simp [hy])]
theorem fp_eq {n : Nat} {R W : List (List Int)} (cR : CanR n R) (cW : CanR n W) : (prs 0 W).find? (fun x => !inT (mul R (rsh R W)) x.1 x.2) = fp n R W := by
  refine find_congr fun p hp => ?_
  obtain ⟨t, o, rfl, ht, ho, _⟩ := prs_word cW hp
  exact (shut_iff cR cW ht ho).symm
/-- there is a missing pair exactly if the product is another one -/
theorem fp_none {n : Nat} {R W : List (List Int)} (cR : CanR n R) (cW : CanR n W) : fp n R W = none ↔ mul R (rsh R W) = W := by
  have cM := mul_canN cR (rsh_canN cR cW)
  rw [← fp_eq cR cW, List.find?_eq_none]
  constructor
  · intro h
    refine le_anti cM cW (by rw [← le_rsh cR (rsh_canN cR cW) cW]; exact le_refl (rsh_canN cR cW).1) ((le_iff cW.1 cM.1).mpr fun j hj x hx => ?_)
    have := h ((j : Int), x) (prs_mem.mpr ⟨j, by rw [cW.1]; exact hj, by simp, hx⟩)
    rw [inT_word (by rw [cM.1]; exact hj)] at this
    cases e : decide (x ∈ row (mul R (rsh R W)) j) with
    | true => exact of_decide_eq_true e
    | false => rw [e] at this; exact absurd rfl this
  · intro h p hp
    rw [h]
    unfold inT
    rw [decide_eq_true hp]
    exact Bool.false_ne_true
theorem fp_some {n : Nat} {R W : List (List Int)} (cW : CanR n W) {p : Int × Int} (h : fp n R W = some p) : ∃ t o : Nat, p = ((t : Int), (o : Int)) ∧ t < n ∧ o < n ∧ (o : Int) ∈ row W t ∧ shut n R W t (o : Int) = true := by
  obtain ⟨t, o, rfl, ht, ho, hw⟩ := prs_word cW (List.mem_of_find?_eq_some h)
  exact ⟨t, o, rfl, ht, ho, hw, List.find?_some (p := fun p : Int × Int => shut n R W p.1.toNat p.2) h⟩
structure Op32 (K : PySem.W.Frag) (mg : Str → Option Value) (C : Addr) : Prop where
  I : C8.InsC K C
  nf : PySem.W.notFirst K C (.ref C) = true
  sf : PySem.W.selfFirst K C = true
  mIt : mg "iter" = none
  init : ∃ f fd, Fun K "__init__" "Table.__init__" sInit f fd ∧ Mk K C f ∧ Binds K fd ["self", "rows"] []
  chSame : ∃ f fd, Fun K "check_same_size" "check_same_size" sChSame f fd ∧ mg "check_same_size" = some (.ref f) ∧ Binds K fd ["first", "second"] []
  out : ∃ f fd, Fun K "_out_of_some" "Table._out_of_some" sOutSome f fd ∧ Meth K C "_out_of_some" f ∧ Binds K fd ["self", "words"] []
  mul : ∃ f fd, Fun K "__mul__" "Table.__mul__" sMul f fd ∧ (PySem.W.findIn K (.ref C) "__mul__" = some (some (.ref f)) ∧ PySem.W.isFn K (.ref f) = true) ∧ Binds K fd ["self", "other"] []
  invert : ∃ f fd, Fun K "__invert__" "Table.__invert__" sInvert f fd ∧ (PySem.W.findIn K (.ref C) "__invert__" = some (some (.ref f)) ∧ PySem.W.isFn K (.ref f) = true) ∧ Binds K fd ["self"] []
  each : ∃ f fd, Fun K "_out_of_each" "Table._out_of_each" sEach f fd ∧ Meth K C "_out_of_each" f ∧ Binds K fd ["self", "words"] []
  rsh : ∃ f fd, Fun K "__rshift__" "Table.__rshift__" sRsh f fd ∧ (PySem.W.findIn K (.ref C) "__rshift__" = some (some (.ref f)) ∧ PySem.W.isFn K (.ref f) = true) ∧ Binds K fd ["self", "other"] []
  eq : ∃ f fd, Fun K "__eq__" "Table.__eq__" sEqT f fd ∧ (PySem.W.findIn K (.ref C) "__eq__" = some (some (.ref f)) ∧ PySem.W.isFn K (.ref f) = true) ∧ Binds K fd ["self", "other"] []
  iter : ∃ f fd, Fun K "__iter__" "Table.__iter__" sIter f fd ∧ (PySem.W.findIn K (.ref C) "__iter__" = some (some (.ref f)) ∧ PySem.W.isFn K (.ref f) = true) ∧ Binds K fd ["self"] []
  cont : ∃ f fd, Fun K "__contains__" "Table.__contains__" sContains f fd ∧ (PySem.W.findIn K (.ref C) "__contains__" = some (some (.ref f)) ∧ PySem.W.isFn K (.ref f) = true) ∧ Binds K fd ["self", "pair"] []
  item : ∃ f fd, Fun K "__getitem__" "Table.__getitem__" sGetitem f fd ∧ (PySem.W.findIn K (.ref C) "__getitem__" = some (some (.ref f)) ∧ PySem.W.fnIn K f = true ∧ PySem.W.isFn K (.ref f) = true) ∧ Binds K fd ["self", "word"] []
def spFur (C : Addr) : Sp := fun vs H Q _ => ∃ (p q : Addr) (R W : List (List Int)), vs = [.ref p, .ref q] ∧ Tab C H p R ∧ Tab C H q W ∧ R.length = W.length ∧ CanR R.length R ∧
  ((mul R (rsh R W) = W ∧ ∀ H' x, Same H H' → H x = none → Tab C H' x (rsh R W) → Q (.ref x) H') ∨ (mul R (rsh R W) ≠ W ∧ ∀ H', Same H H' → Q .non H'))
def spMissing (C : Addr) : Sp := fun vs H Q _ => ∃ (p q : Addr) (R M : List (List Int)), vs = [.ref p, .ref q] ∧ Tab C H p R ∧ Tab C H q M ∧
  (((prs 0 R).find? (fun x => !inT M x.1 x.2) = none ∧ Q .non H) ∨ (∃ x, (prs 0 R).find? (fun x => !inT M x.1 x.2) = some x ∧ ∀ u, H u = some (.tup (vP x)) → Q (.ref u) H))
def spOther (C : Addr) : Sp := fun vs H Q _ => ∃ (p q : Addr) (n : Nat) (R W : List (List Int)) (m o x : Int) (xs : List Int), vs = [.ref p, .ref q, .int m, .int o] ∧ Tab C H p R ∧ Tab C H q W ∧ R.length = n ∧ W.length = n ∧ oth n R W m o = x :: xs ∧ ∀ H', Same H H' → Q (.int x) H'
def spLost (C : Addr) : Sp := fun vs H Q _ => ∃ (p q : Addr) (n : Nat) (R W : List (List Int)), vs = [.ref p, .ref q] ∧ Tab C H p R ∧ Tab C H q W ∧ CanR n R ∧ CanR n W ∧
  ((fp n R W = none ∧ ∀ H', Same H H' → Q .non H') ∨ (∃ t o : Nat, fp n R W = some ((t : Int), (o : Int)) ∧ ∀ H' u l ls, Same H H' → H' u = some (.tup [.int t, .int o, .ref l]) → H' l = some (.lst ls) → PairsT H' ls (blk n R W t o) → Q (.ref u) H'))
section
variable {P : Program} {w : World} {K : PySem.W.Frag} {mg : Str → Option Value} {base : Heap}
abbrev NMi : List Str := ["whole", "found", "pair"]
abbrev NOt : List Str := ["first", "whole", "mid", "out", "senders", "word"]
abbrev NFu : List Str := ["first", "whole", "after"]
abbrev NLo : List Str := ["first", "whole", "pair", "told", "out", "mid"]
theorem scMissing : FnScope NMi ["whole", "found"] (defScope sMissing) := ⟨rfl, rfl, rfl, by decide +kernel, rfl, by decide +kernel, by decide +kernel⟩
theorem ok_missing {f C : Addr} {fd : FuncData} (F : Fun K "first_missing" "first_missing" sMissing f fd) (S : Gs K mg C) (O : Op32 K mg C) : FnOk P w K mg base CX0 2 f fd ["whole", "found"] (spMissing C) := by
  obtain ⟨fIt, fdIt, FIt, ⟨i1, i2⟩, bIt⟩ := O.iter
  obtain ⟨fC, fdC, FC, ⟨c1, c2⟩, bC⟩ := O.cont
  obtain ⟨fG, fdG, FG, ⟨g1, g2, g3⟩, bG⟩ := O.item
  refine F.ok scMissing (fun vs H Q E h => ?_) (fun cdv A outer s H vs Q E hr h => ?_)
  · obtain ⟨p, q, R, M, rfl, _⟩ := h
    rfl
  · obtain ⟨p, q, R, M, rfl, hT, hT2, why⟩ := h
    obtain ⟨dx, tr, tp, ts, qs, h1, h2, h3, h4, h5, h6, h7, h8, h9⟩ := id hT
    obtain ⟨dx', tr', tp', ts', qs', g1', _⟩ := id hT2
    have hr1 : Room 1 _ := hr.mono (by decide)
    refine ⟨_, pss_cons (ps_for PassesOwn.never rfl (pi_tab FIt S.T O.mIt bIt i1 i2 hr1 (pv 0)) (pg_name (i := 2) scMissing.nd rfl (Or.inl rfl)) (pss_one (ps_if (pt_cmpR (op_notInO (ok_contains FC S) hr1 bC pass0 c1 c2) (pv 2) (pv 1) (by rfl)) (pss_one (ps_ret (pv 2))) pss_nil))) (pss_one (ps_ret pe_non)), ?_⟩
    refine ⟨_, rfl, p, dx, tr, tp, R.length, qs, rfl, h1, h5, ?_⟩
    refine for_tup (K := K) (a := tp) (xs := qs) (fun i σ H' => (∃ v, σ = [some (.ref p), some (.ref q), v]) ∧ H' = H ∧ ∀ x ∈ (prs 0 R).take i, (!inT M x.1 x.2) = false) ⟨⟨none, rfl⟩, rfl, by simp⟩ (fun i σ H' _ ⟨_, e, _⟩ => by rw [e]; exact SqT.of h5) ?_ ?_
    · rintro i y σ H1 hi ⟨⟨v, rfl⟩, rfl, before⟩
      obtain ⟨x, hx, u, rfl, hu⟩ := L2.Paired.at h6 hi
      refine ⟨_, rfl, _, rfl, q, dx', _, rfl, g1', q, u, M, x.1, x.2, rfl, hT2, hu, _, rfl, _, rfl, ?_⟩
      show if (!inT M x.1 x.2) = true then _ else _
      have tk : (prs 0 R).take (i + 1) = (prs 0 R).take i ++ [x] := take_more hx
      cases e : inT M x.1 x.2 with
      | true =>
        refine iteF ⟨⟨_, rfl⟩, rfl, fun y hy => ?_⟩
        rw [tk] at hy
        rcases List.mem_append.mp hy with hy | hy
        · exact before y hy
        · rw [List.mem_singleton.mp hy, e]; rfl
      | false =>
        refine iteT ⟨_, rfl, ?_⟩
        have fnd : (prs 0 R).find? (fun x => !inT M x.1 x.2) = some x := by
          rw [← List.take_append_drop i (prs 0 R), List.find?_append, List.find?_eq_none.mpr (fun y hy => by rw [before y hy]; exact Bool.false_ne_true), List.drop_eq_getElem_cons (by exact (List.getElem?_eq_some_iff.mp hx).1), (List.getElem?_eq_some_iff.mp hx).2, List.find?_cons, e]
          rfl
        rcases why with ⟨z, _⟩ | ⟨x', z, k⟩
        · rw [fnd] at z; cases z
        · rw [fnd] at z
          cases z
          exact k u hu
    · rintro σ H1 ⟨⟨v, rfl⟩, rfl, before⟩
      rw [Paired.length h6, List.take_length] at before
      have fnd : (prs 0 R).find? (fun x => !inT M x.1 x.2) = none := List.find?_eq_none.mpr fun y hy => by rw [before y hy]; exact Bool.false_ne_true
      rcases why with ⟨_, k⟩ | ⟨x', z, _⟩
      · exact k
      · rw [fnd] at z; cases z
theorem scOther : FnScope NOt ["first", "whole", "mid", "out"] (defScope sOther) := ⟨rfl, rfl, rfl, by decide +kernel, rfl, by decide +kernel, by decide +kernel⟩
theorem ok_other {f C : Addr} {fd : FuncData} (F : Fun K "_other_sender" "_other_sender" sOther f fd) (S : Gs K mg C) (O : Op32 K mg C) : FnOk P w K mg base CX0 2 f fd ["first", "whole", "mid", "out"] (spOther C) := by
  obtain ⟨fIt, fdIt, FIt, ⟨i1, i2⟩, bIt⟩ := O.iter
  obtain ⟨fC, fdC, FC, ⟨c1, c2⟩, bC⟩ := O.cont
  obtain ⟨fG, fdG, FG, ⟨g1, g2, g3⟩, bG⟩ := O.item
  refine F.ok scOther (fun vs H Q E h => ?_) (fun cdv A outer s H vs Q E hr h => ?_)
  · obtain ⟨p, q, n, R, W, m, o, x, xs, rfl, _⟩ := h
    rfl
  · obtain ⟨p, q, n, R, W, m, o, x, xs, rfl, hT, hT2, eR, eW, hx, k⟩ := h
    obtain ⟨dx, tr, tp, ts, qs, h1, h2, h3, h4, h5, h6, h7, h8, h9⟩ := id hT
    obtain ⟨dx', tr', tp', ts', qs', g1', _⟩ := id hT2
    have hr1 : Room 1 _ := hr.mono (by decide)
    refine ⟨_, pss_cons (ps_setLc (i := 4) (own := [("word", 5)]) (g := (gName 5)) (tt := (tTest (tOp (rInO C (spContains C) E0 false) (tTup (tCons (tVar 5) (tCons (tVar 2) tNil))) (tVar 0)))) (te := (tVar 5)) rfl scOther.nd rfl rfl (sw_true rfl rfl rfl (by decide +kernel)) (pi_range1 (by rfl) S.B.range (pa_cons (pe_fld (pv 0) rfl) pa_nil)) (blkOk_by (own := [("word", 5)]) (N := NOt) (sc := defScope sOther) (by decide +kernel)) (fun _ _ _ _ _ => (pg_name (i := 5) scOther.nd rfl (Or.inl rfl))) (fun _ _ _ _ _ => pts_one (pt_cmpR (op_inO (ok_contains FC S) hr1 bC pass0 c1 c2) (pe_tup (pa_cons (pv 5) (pa_cons (pv 2) pa_nil))) (pv 0) (by rfl))) (fun _ _ _ _ _ => (pv 5)))
      (pss_one (ps_ret (pe_ix ix_list (pe_lc (own := [("word", 5)]) (g := (gName 5)) (tt := (tTest (tOp (rInO C (spContains C) E0 true) (tTup (tCons (tVar 5) (tCons (tVar 3) tNil))) (tVar 1)))) (te := (tVar 5)) rfl scOther.nd (pi_list (pv 4)) (blkOk_by (own := [("word", 5)]) (N := NOt) (sc := defScope sOther) (by decide +kernel)) (fun _ _ _ _ _ => (pg_name (i := 5) scOther.nd rfl (Or.inl rfl))) (fun _ _ _ _ _ => pts_one (pt_cmpR (op_notInO (ok_contains FC S) hr1 bC pass0 c1 c2) (pe_tup (pa_cons (pv 5) (pa_cons (pv 3) pa_nil))) (pv 1) (by rfl))) (fun _ _ _ _ _ => (pv 5))) pe_int (fun _ _ => rfl)))), ?_⟩
    refine ⟨_, rfl, p, C, dx, _, _, rfl, h1, S.T.cl, S.T.nS, tf_size _ _ _, R.length, rfl, by omega, by omega, fun D hD => ?_⟩
    refine lc_range (lo := 0) (n := R.length) (fun j H' => Same H H' ∧ H' D = some (.lst (vI (filt j fun t => decide (m ∈ row R t))))) ⟨Same.new hD, upd_same⟩ ?_ ?_
    · rintro j H1 hj ⟨s1, hd⟩
      have e0 : (0 : Int) + (j : Int) = (j : Int) := Int.zero_add _
      rw [e0]
      refine ⟨rfl, ?_⟩
      refine ⟨_, rfl, _, rfl, by show 2 ≤ sizeLine; decide, fun u hu => ?_⟩
      have s2 := Same.new (H := H1) (o := .tup [.int (j : Int), .int m]) hu
      have s12 := s1.trans s2
      refine ⟨_, rfl, p, dx, _, rfl, s12 _ _ h1, p, u, R, (j : Int), m, rfl, hT.same s12, upd_same, _, rfl, _, rfl, ?_⟩
      have hd2 := s2 _ _ hd
      generalize upd H1 u (.tup [.int (j : Int), .int m]) = H2 at s2 s12 hd2
      rw [inT_word hj]
      by_cases c : m ∈ row R j
      · rw [decide_eq_true c]
        refine iteT ⟨_, rfl, _, hd2, ?_, Same.updN s12 hD, ?_⟩
        · rw [vI_len]
          have := (filt_can (n := j) fun t => decide (m ∈ row R t)).len
          exact Nat.lt_of_le_of_lt (by omega : _ ≤ 6) (by decide)
        · rw [upd_same, filt_succ, if_pos (decide_eq_true c)]
          unfold vI
          rw [List.map_append]
          rfl
      · rw [decide_eq_false c]
        refine iteF ⟨s12, ?_⟩
        rw [filt_succ, if_neg (by rw [decide_eq_false c]; exact Bool.false_ne_true)]
        exact hd2
    rintro H1 ⟨s1, hd⟩
    rw [eR] at hd
    have l6 : (filt n fun t => decide (m ∈ row R t)).length ≤ 6 := by have := (filt_can (n := n) fun t => decide (m ∈ row R t)).len; omega
    refine ⟨_, rfl, D, rfl, ⟨_, SqL.of hd⟩, fun D2 hD2 => ?_⟩
    refine lc_list (K := K) (a := D) (xs := vI (filt n fun t => decide (m ∈ row R t))) (fun e H' => Same H1 H' ∧ H' D2 = some (.lst (vI (((filt n fun t => decide (m ∈ row R t)).take e).filter fun t => !decide (o ∈ row W t.toNat))))) ⟨Same.new hD2, upd_same⟩ (fun e H' _ ⟨s, _⟩ => SqL.of (s _ _ hd)) ?_ ?_
    · rintro e y H2 he ⟨s2, hd2⟩
      obtain ⟨z, hz, rfl⟩ := vI_at he
      obtain ⟨t, rfl, ht, _⟩ := filt_bnd (List.mem_of_getElem? hz)
      refine ⟨rfl, ?_⟩
      refine ⟨_, rfl, _, rfl, by show 2 ≤ sizeLine; decide, fun u hu => ?_⟩
      have s3 := Same.new (H := H2) (o := .tup [.int (t : Int), .int o]) hu
      have s13 := s1.trans (s2.trans s3)
      refine ⟨_, rfl, q, dx', _, rfl, s13 _ _ g1', q, u, W, (t : Int), o, rfl, hT2.same s13, upd_same, _, rfl, _, rfl, ?_⟩
      have hd3 := s3 _ _ hd2
      generalize upd H2 u (.tup [.int (t : Int), .int o]) = H3 at s3 s13 hd3
      rw [inT_word (by rw [eW]; exact ht)]
      show if (!decide (o ∈ row W t)) = true then _ else _
      have tk : (filt n fun t => decide (m ∈ row R t)).take (e + 1) = (filt n fun t => decide (m ∈ row R t)).take e ++ [(t : Int)] := take_more hz
      by_cases c : o ∈ row W t
      · rw [decide_eq_true c]
        refine iteF ⟨s2.trans s3, ?_⟩
        rw [tk, List.filter_append, show [(t : Int)].filter (fun t => !decide (o ∈ row W t.toNat)) = [] by simp [c], List.append_nil]
        exact hd3
      · rw [decide_eq_false c]
        refine iteT ⟨_, rfl, _, hd3, ?_, Same.updN (s2.trans s3) hD2, ?_⟩
        · rw [vI_len]
          exact Nat.lt_of_le_of_lt (Nat.le_trans (List.length_filter_le _ _) (Nat.le_trans (List.length_take_le' _ _) l6)) (by decide)
        · rw [upd_same, tk, List.filter_append, show [(t : Int)].filter (fun t => !decide (o ∈ row W t.toNat)) = [(t : Int)] by simp [c]]
          unfold vI
          rw [List.map_append]
          rfl
    rintro H2 ⟨s2, hd2⟩
    rw [show (vI (filt n fun t => decide (m ∈ row R t))).length = _ from vI_len _, List.take_length] at hd2
    have eo : ((filt n fun t => decide (m ∈ row R t)).filter fun t => !decide (o ∈ row W t.toNat)) = oth n R W m o := by
      unfold oth filt
      rw [List.filter_map, List.filter_filter]
      congr 2
      funext z
      exact Bool.and_comm _ _
    rw [eo, hx] at hd2
    exact ⟨D2, _, _, _, rfl, rfl, SqL.of hd2, atI_nat (xs := vI (x :: xs)) (j := 0) rfl, k H2 (s1.trans s2)⟩
theorem scFu : FnScope NFu ["first", "whole"] (defScope sFur) := ⟨rfl, rfl, rfl, by decide +kernel, rfl, by decide +kernel, by decide +kernel⟩
theorem ok_fur {f C : Addr} {fd : FuncData} (F : Fun K "further" "further" sFur f fd) (S : Gs K mg C) (O : Op32 K mg C) : FnOk P w K mg base CX0 7 f fd ["first", "whole"] (spFur C) := by
  obtain ⟨fN, fdN, FN, MN, bN⟩ := O.init
  obtain ⟨fZ, fdZ, FZ, mZ, bZ⟩ := O.chSame
  obtain ⟨fU, fdU, FU, mU, bU⟩ := O.out
  obtain ⟨fM, fdM, FM, ⟨m1, m2⟩, bM⟩ := O.mul
  obtain ⟨fJ, fdJ, FJ, ⟨mJ, mJ2⟩, bJ⟩ := O.invert
  obtain ⟨fE, fdE, FE, mE, bE⟩ := O.each
  obtain ⟨fR, fdR, FRs, ⟨r1, r2⟩, bRs⟩ := O.rsh
  obtain ⟨fQ, fdQ, FQ, ⟨q1, q2⟩, bQ⟩ := O.eq
  refine F.ok scFu (fun vs H Q E h => ?_) (fun cdv A outer s H vs Q E hr h => ?_)
  · obtain ⟨p, q, R, W, rfl, _⟩ := h
    rfl
  · have hr6 : Room 6 _ := hr
    have hr5 : Room 5 _ := hr.mono (by decide)
    have hr1 : Room 1 _ := hr.mono (by decide)
    refine ⟨_, pss_cons (ps_set (i := 2) scFu.nd rfl (Or.inl rfl) (pe_op (op_bin (ok_Rsh FRs S FN MN bN FE mE bE FZ mZ bZ FJ mJ mJ2 bJ) hr6 bRs pass0 O.sf r1 r2) (pv 0) (pv 1)))
      (pss_one (ps_ret (pe_ifExp (pt_cmpR (op_cmp (fun _ _ => rfl) (ok_eqT FQ S O.I) hr1 bQ pass0 O.nf q1 q2) (pe_op (op_bin (ok_mul FM S FN MN bN FU mU bU FZ mZ bZ) hr5 bM pass0 O.sf m1 m2) (pv 0) (pv 2)) (pv 1) (nomark _)) (pv 2) pe_non))), ?_⟩
    obtain ⟨p, q, R, W, rfl, hT, hT2, e, cR, why⟩ := h
    obtain ⟨dx, tr, tp, ts, qs, h1, _⟩ := id hT
    obtain ⟨dx', tr', tp', ts', qs', g1, _⟩ := id hT2
    refine ⟨_, rfl, _, rfl, p, dx, _, q, dx', _, rfl, rfl, h1, g1, p, q, R, W, rfl, hT, hT2, e, fun H1 x s1 x0 hX => ?_⟩
    obtain ⟨dx2, tr2, tp2, ts2, qs2, x1, _⟩ := id hX
    refine ⟨_, rfl, _, rfl, p, dx, _, x, dx2, _, rfl, rfl, s1 _ _ h1, x1, p, x, R, rsh R W, rfl, hT.same s1, hX, by rw [rsh_len], cR.2, fun H2 y s2 y0 hY => ?_⟩
    obtain ⟨dx3, tr3, tp3, ts3, qs3, y1, _⟩ := id hY
    have s12 := s1.trans s2
    refine ⟨_, rfl, y, dx3, _, q, dx', _, rfl, rfl, y1, s12 _ _ g1, y, q, mul R (rsh R W), W, rfl, hY, hT2.same s12, ?_⟩
    refine ⟨_, rfl, ?_⟩
    rcases why with ⟨eq, k⟩ | ⟨ne, k⟩
    · rw [decide_eq_true eq]
      exact iteT ⟨_, rfl, k H2 x s12 x0 (hX.same s2)⟩
    · rw [decide_eq_false ne]
      exact iteF (k H2 s12)
theorem scLost : FnScope NLo ["first", "whole"] (defScope sLost) := ⟨rfl, rfl, rfl, by decide +kernel, rfl, by decide +kernel, by decide +kernel⟩
theorem ok_lost {f a b C : Addr} {fd fda fdb : FuncData} (F : Fun K "lost_pair" "lost_pair" sLost f fd) (S : Gs K mg C) (O : Op32 K mg C) (FMi : Fun K "first_missing" "first_missing" sMissing a fda) (mMi : mg "first_missing" = some (.ref a)) (bMi : Binds K fda ["whole", "found"] [])
    (FOt : Fun K "_other_sender" "_other_sender" sOther b fdb) (mOt : mg "_other_sender" = some (.ref b)) (bOt : Binds K fdb ["first", "whole", "mid", "out"] []) : FnOk P w K mg base CX0 7 f fd ["first", "whole"] (spLost C) := by
  obtain ⟨fN, fdN, FN, MN, bN⟩ := O.init
  obtain ⟨fZ, fdZ, FZ, mZ, bZ⟩ := O.chSame
  obtain ⟨fU, fdU, FU, mU, bU⟩ := O.out
  obtain ⟨fM, fdM, FM, ⟨m1, m2⟩, bM⟩ := O.mul
  obtain ⟨fJ, fdJ, FJ, ⟨mJ, mJ2⟩, bJ⟩ := O.invert
  obtain ⟨fE, fdE, FE, mE, bE⟩ := O.each
  obtain ⟨fR, fdR, FRs, ⟨r1, r2⟩, bRs⟩ := O.rsh
  obtain ⟨fQ, fdQ, FQ, ⟨q1, q2⟩, bQ⟩ := O.eq
  obtain ⟨fIt, fdIt, FIt, ⟨i1, i2⟩, bIt⟩ := O.iter
  obtain ⟨fC, fdC, FC, ⟨c1, c2⟩, bC⟩ := O.cont
  obtain ⟨fG, fdG, FG, ⟨g1, g2, g3⟩, bG⟩ := O.item
  refine F.ok scLost (fun vs H Q E h => ?_) (fun cdv A outer s H vs Q E hr h => ?_)
  · obtain ⟨p, q, n, R, W, rfl, _⟩ := h
    rfl
  · have hr6 : Room 6 _ := hr
    have hr5 : Room 5 _ := hr.mono (by decide)
    have hr4 : Room 4 _ := hr.mono (by decide)
    have hr2 : Room 2 _ := hr.mono (by decide)
    have hr1 : Room 1 _ := hr.mono (by decide)
    refine ⟨_, pss_cons (ps_set (i := 2) scLost.nd rfl (Or.inl rfl) (pe_call (ok_missing FMi S O) hr2 rfl mMi FMi.kp bMi .nil pass0 (pa_cons (pv 1) (pa_cons (pe_op (op_bin (ok_mul FM S FN MN bN FU mU bU FZ mZ bZ) hr5 bM pass0 O.sf m1 m2) (pv 0) (pe_op (op_bin (ok_Rsh FRs S FN MN bN FE mE bE FZ mZ bZ FJ mJ mJ2 bJ) hr6 bRs pass0 O.sf r1 r2) (pv 0) (pv 1))) pa_nil))))
      (pss_cons (ps_if (pt_cmpR op_isN (pv 2) pe_non (nomark _)) (pss_one (ps_ret pe_non)) pss_nil)
      (pss_cons (ps_asg (pv 2) (pg_tup (by rfl) (pgs_cons (pg_name (i := 3) scLost.nd rfl (Or.inl rfl)) (pgs_cons (pg_name (i := 4) scLost.nd rfl (Or.inr rfl)) pgs_nil))))
      (pss_one (ps_ret (pe_tup (pa_cons (pv 3) (pa_cons (pv 4) (pa_cons (pe_lc (own := [("mid", 5)]) (g := (gName 5)) (tt := tYes) (te := (tTup (tCons (tVar 5) (tCons (tCall (spOther C) [] E0 (tCons (tVar 0) (tCons (tVar 1) (tCons (tVar 5) (tCons (tVar 4) tNil))))) tNil)))) rfl scLost.nd (pi_list (pe_ixOwn (ok_getitem FG S) hr4 bG pass0 g1 g2 g3 (pv 0) (pv 3))) (blkOk_by (own := [("mid", 5)]) (N := NLo) (sc := defScope sLost) (by decide +kernel)) (fun _ _ _ _ _ => (pg_name (i := 5) scLost.nd rfl (Or.inl rfl))) (fun _ _ _ _ _ => pts_nil) (fun _ _ _ _ _ => (pe_tup (pa_cons (pv 5) (pa_cons (pe_call (ok_other FOt S O) hr2 rfl mOt FOt.kp bOt .nil pass0 (pa_cons (pv 0) (pa_cons (pv 1) (pa_cons (pv 5) (pa_cons (pv 4) pa_nil))))) pa_nil))))) pa_nil)))))))), ?_⟩
    obtain ⟨p, q, n, R, W, rfl, hT, hT2, cR, cW, why⟩ := h
    obtain ⟨dx, tr, tp, ts, qs, h1, _, _, _, _, _, _, n6, _⟩ := id hT
    obtain ⟨dx', tr', tp', ts', qs', g1', _⟩ := id hT2
    rw [cR.1] at n6
    have e : R.length = W.length := by rw [cR.1, cW.1]
    refine ⟨_, rfl, _, rfl, _, rfl, _, rfl, p, dx, _, q, dx', _, rfl, rfl, h1, g1', p, q, R, W, rfl, hT, hT2, e, fun H1 x s1 x0 hX => ?_⟩
    obtain ⟨dx2, tr2, tp2, ts2, qs2, x1, _⟩ := id hX
    refine ⟨p, dx, _, x, dx2, _, rfl, rfl, s1 _ _ h1, x1, p, x, R, rsh R W, rfl, hT.same s1, hX, by rw [rsh_len], (by rw [cR.1]; exact cR.2), fun H2 y s2 y0 hY => ?_⟩
    have s12 := s1.trans s2
    refine ⟨q, y, W, mul R (rsh R W), rfl, hT2.same s12, hY, ?_⟩
    rw [fp_eq cR cW]
    rcases why with ⟨z, k⟩ | ⟨t, o, z, k⟩
    · exact .inl ⟨z, ⟨_, rfl, rfl, _, rfl, iteYes rfl (k H2 s12)⟩⟩
    refine .inr ⟨_, z, fun u hu => ?_⟩
    obtain ⟨t', o', e', ht, ho, hw, hs⟩ := fp_some cW z
    rw [Prod.mk.injEq] at e'
    have et : t = t' := by omega
    have eo : o = o' := by omega
    subst et eo
    refine ⟨_, rfl, rfl, _, rfl, iteNo (fun z => by cases z) ?_⟩
    refine ⟨_, rfl, u, _, rfl, SqT.of hu, rfl, _, _, rfl, _, _, rfl, rfl, ?_⟩
    have T2 := hT.same s12
    refine ⟨_, rfl, _, rfl, _, rfl, _, rfl, p, dx, _, rfl, s12 _ _ h1, p, R, t, row R t, rfl, T2, at_row (by rw [cR.1]; exact ht), fun H3 l s3 l0 hl => ?_⟩
    have s13 := s12.trans s3
    refine ⟨l, rfl, ⟨_, SqL.of hl⟩, fun D hD => ?_⟩
    have l6 : (row R t).length ≤ 6 := by have := (cR.row ht).len; omega
    refine lc_list (K := K) (a := l) (xs := vI (row R t)) (fun i H' => Same H3 H' ∧ ∃ qs, H' D = some (.lst qs) ∧ PairsT H' qs ((blk n R W t o).take i)) ⟨Same.new hD, [], upd_same, .nil⟩ (fun i H' _ ⟨s, _⟩ => SqL.of (s _ _ hl)) ?_ ?_
    · rintro i y H4 hi ⟨s4, qs4, hq4, hP4⟩
      obtain ⟨m, hm, rfl⟩ := vI_at hi
      have s14 := s13.trans s4
      obtain ⟨x1, xs1, hx1⟩ : ∃ x xs, oth n R W m o = x :: xs := by
        unfold shut at hs
        have := List.all_eq_true.mp hs m (List.mem_of_getElem? hm)
        cases e : oth n R W m o with
        | nil => rw [e] at this; cases this
        | cons x xs => exact ⟨x, xs, rfl⟩
      refine ⟨rfl, yesT (iteT ⟨_, rfl, _, rfl, _, rfl, _, rfl, _, rfl, p, q, n, R, W, m, o, x1, xs1, rfl, hT.same s14, hT2.same s14, cR.1, cW.1, hx1, fun H5 s5 => ⟨by show 2 ≤ sizeLine; decide, fun u hu => ?_⟩⟩)⟩
      have s6 := Same.new (H := H5) (o := .tup [.int m, .int x1]) hu
      have s46 := s5.trans s6
      have hq6 := s46 _ _ hq4
      have hP6 := PairsT.same s46 hP4
      have hu6 : upd H5 u (.tup [.int m, .int x1]) u = some (.tup (vP (m, x1))) := upd_same
      generalize upd H5 u (.tup [.int m, .int x1]) = H6 at s6 s46 hq6 hP6 hu6
      have bt : (blk n R W t o)[i]? = some (m, x1) := by
        unfold blk
        rw [List.getElem?_map, hm]
        show some (m, (oth n R W m o).headD 0) = _
        rw [hx1]
        rfl
      refine ⟨qs4, hq6, ?_, Same.updN (s4.trans s46) hD, qs4 ++ [.ref u], upd_same, ?_⟩
      · rw [Paired.length hP4]
        exact Nat.lt_of_le_of_lt (Nat.le_trans (List.length_take_le' _ _) (by unfold blk; rw [List.length_map]; exact l6)) (by decide)
      · rw [take_more bt]
        exact PairsT.updL (L2.Paired.snoc ⟨u, rfl, hu6⟩ hP6) hq6
    rintro H4 ⟨s4, qs4, hq4, hP4⟩
    rw [vI_len, List.take_of_length_le (by unfold blk; rw [List.length_map]; exact Nat.le_refl _)] at hP4
    refine ⟨by show 3 ≤ sizeLine; decide, fun v hv => ?_⟩
    have s5 := Same.new (H := H4) (o := .tup [.int (t : Int), .int (o : Int), .ref D]) hv
    exact k _ v D qs4 ((s13.trans s4).trans s5) upd_same (s5 _ _ hq4) (PairsT.same s5 hP4)
end
end Toy
namespace Toy
open PySem PySem.Spec PyProof.Rows L2
abbrev sBlocks : Stmt := top 33
abbrev sPaper : Stmt := top 34
def spBlocks : Sp := fun vs H Q _ => ∃ (l1 l2 : Addr) (ls1 ls2 : List V) (n : Nat) (R W : List (List Int)) (t : Nat) (o : Int), vs = [.ref l1, .ref l2, .int t, .int o] ∧ H l1 = some (.lst ls1) ∧ RowsL H ls1 R ∧ H l2 = some (.lst ls2) ∧ RowsL H ls2 W ∧ CanR n R ∧ CanR n W ∧ n ≤ 6 ∧ t < n ∧
  ((shut n R W t o = true ∧ ∀ H' d ds, Same H H' → H d = none → H' d = some (.lst ds) → PairsT H' ds (blk n R W t o) → Q (.ref d) H') ∨ (shut n R W t o = false ∧ ∀ H', Same H H' → Q .non H'))
def spPaper : Sp := fun vs H Q _ => ∃ (l1 l2 : Addr) (ls1 ls2 : List V) (n : Nat) (R W : List (List Int)), vs = [.ref l1, .ref l2] ∧ H l1 = some (.lst ls1) ∧ RowsL H ls1 R ∧ H l2 = some (.lst ls2) ∧ RowsL H ls2 W ∧ CanR n R ∧ CanR n W ∧ n ≤ 6 ∧
  ((fp n R W = none ∧ ∀ H', Same H H' → Q .non H') ∨ (∃ t o : Nat, fp n R W = some ((t : Int), (o : Int)) ∧ ∀ H' u l ls, Same H H' → H' u = some (.tup [.int t, .int o, .ref l]) → H' l = some (.lst ls) → PairsT H' ls (blk n R W t o) → Q (.ref u) H'))
theorem prs_append : ∀ (k : Nat) (A B : List (List Int)), prs k (A ++ B) = prs k A ++ prs (k + A.length) B
  | k, [], B => by simp [prs]
  | k, a :: A, B => by
    show a.map _ ++ prs (k + 1) (A ++ B) = (a.map _ ++ prs (k + 1) A) ++ _
    rw [prs_append (k + 1) A B, List.append_assoc, show k + 1 + A.length = k + (a :: A).length by rw [List.length_cons]; omega]
theorem prs_cut {W : List (List Int)} {t : Nat} (h : t < W.length) : prs 0 W = prs 0 (W.take t) ++ ((row W t).map (fun x => ((t : Int), x)) ++ prs (t + 1) (W.drop (t + 1))) := by
  have e : W = W.take t ++ (row W t :: W.drop (t + 1)) := by
    rw [row_of (List.getElem?_eq_getElem h), ← List.drop_eq_getElem_cons h, List.take_append_drop]
  have lt : (W.take t).length = t := by rw [List.length_take]; omega
  rw [← show prs 0 (W.take t ++ (row W t :: W.drop (t + 1))) = prs 0 W from congrArg _ e.symm, prs_append, lt, Nat.zero_add]
  rfl
section
variable {P : Program} {w : World} {K : PySem.W.Frag} {mg : Str → Option Value} {base : Heap}
abbrev NBk : List Str := ["_law_first", "_law_whole", "_law_told", "_law_out", "_law_blocks_here", "_law_mid", "_law_others", "_law_one"]
abbrev NPa : List Str := ["_law_first", "_law_whole", "_law_told", "_law_out", "_law_blocks_here"]
theorem scBlocks : FnScope NBk ["_law_first", "_law_whole", "_law_told", "_law_out"] (defScope sBlocks) := ⟨rfl, rfl, rfl, by decide +kernel, rfl, by decide +kernel, by decide +kernel⟩
theorem ok_blocks {f : Addr} {fd : FuncData} (F : Fun K "_law_blocks" "_law_blocks" sBlocks f fd) (B : Bt mg) : FnOk P w K mg base CX0 1 f fd ["_law_first", "_law_whole", "_law_told", "_law_out"] spBlocks := by
  refine F.ok scBlocks (fun vs H Q E h => ?_) (fun cdv A outer s H vs Q E hr h => ?_)
  · obtain ⟨l1, l2, ls1, ls2, n, R, W, t, o, rfl, _⟩ := h
    rfl
  · obtain ⟨l1, l2, ls1, ls2, n, R, W, t, o, rfl, h1, hR, h2, hW, cR, cW, n6, ht, why⟩ := h
    refine ⟨_, pss_cons (ps_set (i := 4) scBlocks.nd rfl (Or.inl rfl) (pe_lst pa_nil))
      (pss_cons (ps_for PassesOwn.never rfl (pi_list (pe_ix ix_list (pv 0) (pv 2) (fun _ _ => rfl))) (pg_name (i := 5) scBlocks.nd rfl (Or.inr rfl)) (pss_cons (ps_setLc (i := 6) (own := [("_law_one", 7)]) (g := (gName 7)) (tt := (tAnd (tTest (tOp (rIn K false) (tVar 5) (tOp (rIxL K) (tVar 0) (tVar 7)))) (tTest (tOp (rIn K true) (tVar 3) (tOp (rIxL K) (tVar 1) (tVar 7)))))) (te := (tVar 7)) rfl scBlocks.nd rfl rfl (sw_true rfl rfl rfl (by decide +kernel)) (pi_range1 (by rfl) B.range (pa_cons (pe_callB call_len_seq (by rfl) B.len PySem.boot_len (pa_cons (pv 0) pa_nil)) pa_nil)) (blkOk_by (own := [("_law_one", 7)]) (N := NBk) (sc := defScope sBlocks) (by decide +kernel)) (fun _ _ _ _ _ => (pg_name (i := 7) scBlocks.nd rfl (Or.inl rfl))) (fun _ _ _ _ _ => pts_one (PW.pt (pw_and (pt_cmpR op_in_seq (pv 5) (pe_ix ix_list (pv 0) (pv 7) (fun _ _ => rfl)) (by rfl)) (pw_and1 (pt_cmpR op_notIn_seq (pv 3) (pe_ix ix_list (pv 1) (pv 7) (fun _ _ => rfl)) (by rfl)))))) (fun _ _ _ _ _ => (pv 7)))
      (pss_cons (ps_if (pt_cmpR (op_eqD hr.units) (pv 6) (pe_lst pa_nil) (nomark _)) (pss_one (ps_ret pe_non)) pss_nil)
      (pss_one (ps_expr (pe_bm PySem.F.plainAttrs_list PySem.F.slot_list_append PySem.F.type_list_append mt_append (pv 4) (pa_cons (pe_tup (pa_cons (pv 5) (pa_cons (pe_ix ix_list (pv 6) pe_int (fun _ _ => rfl)) pa_nil))) pa_nil))))))) (pss_one (ps_ret (pv 4)))), ?_⟩
    have el : ls1.length = n := by rw [Paired.length hR, cR.1]
    refine ⟨Nat.zero_le _, fun d hd => ?_⟩
    have s0 := Same.new (H := H) (o := .lst []) hd
    obtain ⟨u1, g1, t1, rfl, y1⟩ := L2.Paired.at2 hR (at_row (by rw [cR.1]; exact ht : t < R.length))
    have l6 : (row R t).length ≤ 6 := by have := (cR.row ht).len; omega
    refine ⟨_, rfl, _, rfl, l1, _, _, _, rfl, rfl, SqL.of (s0 _ _ h1), atI_nat g1, t1, rfl, ⟨_, SqL.of (s0 _ _ y1)⟩, ?_⟩
    refine for_list (K := K) (a := t1) (xs := vI (row R t)) (fun i σ H' => (∃ v5 v6, σ = [some (.ref l1), some (.ref l2), some (.int t), some (.int o), some (.ref d), v5, v6, none]) ∧ Same H H' ∧ (∃ qs, H' d = some (.lst qs) ∧ PairsT H' qs ((blk n R W t o).take i)) ∧ ((row R t).take i).all (fun m => !(oth n R W m o).isEmpty) = true)
      ⟨⟨none, none, rfl⟩, s0, ⟨[], upd_same, .nil⟩, by simp⟩ (fun i σ H' _ ⟨_, s, _⟩ => SqL.of (s _ _ y1)) ?_ ?_
    · rintro i y σ H1 hi ⟨⟨v5, v6, rfl⟩, s1, ⟨qs1, hq1, hP1⟩, al⟩
      obtain ⟨m, hm, rfl⟩ := vI_at hi
      refine ⟨_, rfl, l1, _, rfl, .inl (SqL.of (s1 _ _ h1)), ls1.length, rfl, by omega, by omega, fun D hD => ?_⟩
      refine lc_range (lo := 0) (n := ls1.length) (fun j H' => Same H1 H' ∧ H' D = some (.lst (vI (oth j R W m o)))) ⟨Same.new hD, upd_same⟩ ?_ ?_
      · rintro j H2 hj ⟨s2, hd2⟩
        have e0 : (0 : Int) + (j : Int) = (j : Int) := Int.zero_add _
        rw [e0]
        have s12 := s1.trans s2
        obtain ⟨u3, g3, t3, rfl, y3⟩ := L2.Paired.at2 (RowsL.same s12 hR) (at_row (by rw [cR.1]; omega : j < R.length))
        obtain ⟨u4, g4, t4, rfl, y4⟩ := L2.Paired.at2 (RowsL.same s12 hW) (at_row (by rw [cW.1]; omega : j < W.length))
        refine ⟨rfl, ?_⟩
        refine ⟨_, rfl, _, rfl, _, rfl, l1, _, _, _, rfl, rfl, SqL.of (s12 _ _ h1), atI_nat g3, t3, _, rfl, .inl (SqL.of y3), rfl, flat_vI _, _, rfl, ?_⟩
        show if (if false = true then !inV (.int m) (vI (row R j)) else inV (.int m) (vI (row R j))) = true then _ else _
        rw [if_neg Bool.false_ne_true, inV_vI]
        by_cases c1 : m ∈ row R j
        case neg =>
          rw [decide_eq_false c1]
          refine iteF (iteF ⟨s2, ?_⟩)
          unfold oth
          rw [filt_succ, if_neg (by rw [decide_eq_false c1]; exact Bool.false_ne_true)]
          exact hd2
        rw [decide_eq_true c1]
        refine iteT ?_
        refine ⟨_, rfl, _, rfl, _, rfl, l2, _, _, _, rfl, rfl, SqL.of (s12 _ _ h2), atI_nat g4, t4, _, rfl, .inl (SqL.of y4), rfl, flat_vI _, _, rfl, ?_⟩
        show if (if true = true then !inV (.int o) (vI (row W j)) else inV (.int o) (vI (row W j))) = true then _ else _
        rw [if_pos rfl, inV_vI]
        by_cases c2 : o ∈ row W j
        · rw [decide_eq_true c2]
          refine iteF ⟨s2, ?_⟩
          unfold oth
          rw [filt_succ, if_neg (by rw [decide_eq_true c1, decide_eq_true c2]; exact Bool.false_ne_true)]
          exact hd2
        · rw [decide_eq_false c2]
          refine iteT ⟨_, rfl, _, hd2, ?_, Same.updN s2 hD, ?_⟩
          · rw [vI_len]
            have := (filt_can (n := j) fun t => decide (m ∈ row R t) && !decide (o ∈ row W t)).len
            exact Nat.lt_of_le_of_lt (by unfold oth; omega : _ ≤ 6) (by decide)
          · rw [upd_same]
            unfold oth
            rw [filt_succ, if_pos (by rw [decide_eq_true c1, decide_eq_false c2]; rfl)]
            unfold vI
            rw [List.map_append]
            rfl
      rintro H2 ⟨s2, hd2⟩
      rw [el] at hd2
      have s12 := s1.trans s2
      refine ⟨_, rfl, Nat.zero_le _, fun q hq => ⟨_, _, dpI (SqL.of ((Same.new hq) _ _ hd2)), dpI (a := []) (SqL.of upd_same), shI _, shI [], _, rfl, ?_⟩⟩
      rw [eqI]
      have sq := Same.new (H := H2) (o := .lst []) hq
      have hd3 := sq _ _ hd2
      have s13 := s12.trans sq
      have s23 := s2.trans sq
      generalize upd H2 q (.lst []) = H3 at sq hd3 s13 s23
      cases e : oth n R W m o with
      | nil =>
        rw [decide_eq_true rfl]
        refine iteT ?_
        have sh : shut n R W t o = false := by
          unfold shut
          rw [List.all_eq_false]
          exact ⟨m, List.mem_of_getElem? hm, by rw [e]; exact Bool.false_ne_true⟩
        rcases why with ⟨z, _⟩ | ⟨_, k⟩
        · rw [sh] at z; cases z
        · exact k _ s13
      | cons x xs =>
        rw [e] at hd3
        rw [decide_eq_false (by intro z; cases z)]
        refine iteF ?_
        refine ⟨_, rfl, .inl ⟨rfl, _, SqL.of (s23 _ _ hq1)⟩, _, rfl, _, rfl, D, _, _, _, rfl, rfl, SqL.of hd3, atI_nat (xs := vI (x :: xs)) (j := 0) rfl, (by show 2 ≤ sizeLine; decide), fun u hu => ?_⟩
        have s4 := Same.new (H := H3) (o := .tup [.int m, .int x]) hu
        have hq4 := s4 _ _ (s23 _ _ hq1)
        have hP4 := PairsT.same (s23.trans s4) hP1
        have hu4 : upd H3 u (.tup [.int m, .int x]) u = some (.tup (vP (m, x))) := upd_same
        have s14 := s13.trans s4
        generalize upd H3 u (.tup [.int m, .int x]) = H4 at s4 hq4 hP4 hu4 s14
        have bt : (blk n R W t o)[i]? = some (m, x) := by
          unfold blk
          rw [List.getElem?_map, hm]
          show some (m, (oth n R W m o).headD 0) = _
          rw [e]
          rfl
        refine ⟨d, _, _, rfl, rfl, hq4, ?_, ⟨_, _, rfl⟩, Same.updN s14 hd, ⟨qs1 ++ [.ref u], upd_same, ?_⟩, ?_⟩
        · rw [Paired.length hP1]
          exact Nat.lt_of_le_of_lt (Nat.le_trans (List.length_take_le' _ _) (by unfold blk; rw [List.length_map]; exact l6)) (by decide)
        · rw [take_more bt]
          exact PairsT.updL (L2.Paired.snoc ⟨u, rfl, hu4⟩ hP4) hq4
        · rw [take_more hm, List.all_append, al]
          simp [e]
    · rintro σ H1 ⟨⟨v5, v6, rfl⟩, s1, ⟨qs1, hq1, hP1⟩, al⟩
      rw [vI_len] at hP1 al
      rw [List.take_of_length_le (by unfold blk; rw [List.length_map]; exact Nat.le_refl _)] at hP1
      rw [List.take_length] at al
      rcases why with ⟨_, k⟩ | ⟨z, _⟩
      · exact ⟨_, rfl, k _ d qs1 s1 hd hq1 hP1⟩
      · unfold shut at z; rw [al] at z; cases z
theorem scPaper : FnScope NPa ["_law_first", "_law_whole"] (defScope sPaper) := ⟨rfl, rfl, rfl, by decide +kernel, rfl, by decide +kernel, by decide +kernel⟩
theorem ok_paper {f g : Addr} {fd fdg : FuncData} (F : Fun K "_law_paper" "_law_paper" sPaper f fd) (B : Bt mg) (FBk : Fun K "_law_blocks" "_law_blocks" sBlocks g fdg) (mBk : mg "_law_blocks" = some (.ref g)) (bBk : Binds K fdg ["_law_first", "_law_whole", "_law_told", "_law_out"] []) :
    FnOk P w K mg base CX0 2 f fd ["_law_first", "_law_whole"] spPaper := by
  refine F.ok scPaper (fun vs H Q E h => ?_) (fun cdv A outer s H vs Q E hr h => ?_)
  · obtain ⟨l1, l2, ls1, ls2, n, R, W, rfl, _⟩ := h
    rfl
  · obtain ⟨l1, l2, ls1, ls2, n, R, W, rfl, h1, hR, h2, hW, cR, cW, n6, why⟩ := h
    have hr1 : Room 1 _ := hr.mono (by decide)
    refine ⟨_, pss_cons (ps_for PassesOwn.never rfl (pi_range1 (by rfl) B.range (pa_cons (pe_callB call_len_seq (by rfl) B.len PySem.boot_len (pa_cons (pv 0) pa_nil)) pa_nil)) (pg_name (i := 2) scPaper.nd rfl (Or.inl rfl)) (pss_one (ps_for PassesOwn.never rfl (pi_list (pe_ix ix_list (pv 1) (pv 2) (fun _ _ => rfl))) (pg_name (i := 3) scPaper.nd rfl (Or.inl rfl)) (pss_cons (ps_set (i := 4) scPaper.nd rfl (Or.inl rfl) (pe_call (ok_blocks FBk B) hr1 rfl mBk FBk.kp bBk .nil pass0 (pa_cons (pv 0) (pa_cons (pv 1) (pa_cons (pv 2) (pa_cons (pv 3) pa_nil))))))
      (pss_one (ps_if (pt_cmpR op_notN (pv 4) pe_non (nomark _)) (pss_one (ps_ret (pe_tup (pa_cons (pv 2) (pa_cons (pv 3) (pa_cons (pv 4) pa_nil)))))) pss_nil)))))) (pss_one (ps_ret pe_non)), ?_⟩
    have el : ls1.length = n := by rw [Paired.length hR, cR.1]
    refine ⟨_, rfl, l1, _, rfl, .inl (SqL.of h1), ls1.length, rfl, by omega, by omega, ?_⟩
    refine for_range (lo := 0) (n := ls1.length) (fun t σ H' => (∃ v2 v3 v4, σ = [some (.ref l1), some (.ref l2), v2, v3, v4]) ∧ Same H H' ∧ (prs 0 (W.take t)).find? (fun p => shut n R W p.1.toNat p.2) = none)
      ⟨⟨none, none, none, rfl⟩, Same.refl _, rfl⟩ ?_ ?_
    · rintro t σ H1 ht ⟨⟨v2, v3, v4, rfl⟩, s1, f1⟩
      have e0 : (0 : Int) + (t : Int) = (t : Int) := Int.zero_add _
      rw [e0]
      have ht' : t < n := by omega
      have htW : t < W.length := by rw [cW.1]; exact ht'
      obtain ⟨u1, g1, t1, rfl, y1⟩ := L2.Paired.at2 hW (at_row htW)
      refine ⟨_, rfl, _, rfl, l2, _, _, _, rfl, rfl, SqL.of (s1 _ _ h2), atI_nat g1, t1, rfl, ⟨_, SqL.of (s1 _ _ y1)⟩, ?_⟩
      refine for_list (K := K) (a := t1) (xs := vI (row W t)) (fun i σ H' => (∃ v3 v4, σ = [some (.ref l1), some (.ref l2), some (.int (t : Int)), v3, v4]) ∧ Same H H' ∧ ∀ o ∈ (row W t).take i, shut n R W t o = false)
        ⟨⟨_, _, rfl⟩, s1, by simp⟩ (fun i σ H' _ ⟨_, s, _⟩ => SqL.of (s _ _ y1)) ?_ ?_
      · rintro i y σ H2 hi ⟨⟨v3, v4, rfl⟩, s2, f2⟩
        obtain ⟨o, ho, rfl⟩ := vI_at hi
        refine ⟨_, rfl, _, rfl, _, rfl, _, rfl, l1, l2, ls1, ls2, n, R, W, t, o, rfl, s2 _ _ h1, RowsL.same s2 hR, s2 _ _ h2, RowsL.same s2 hW, cR, cW, n6, ht', ?_⟩
        cases e : shut n R W t o with
        | false =>
          refine .inr ⟨rfl, fun H3 s3 => ⟨_, rfl, rfl, _, rfl, iteYesN rfl ⟨⟨_, _, rfl⟩, s2.trans s3, fun z hz => ?_⟩⟩⟩
          rw [take_more ho] at hz
          rcases List.mem_append.mp hz with hz | hz
          · exact f2 z hz
          · rw [List.mem_singleton.mp hz]; exact e
        | true =>
          refine .inl ⟨rfl, fun H3 d ds s3 _ hd hP => ⟨_, rfl, rfl, _, rfl, iteNoN (fun z => by cases z) ⟨_, rfl, _, rfl, _, rfl, by show 3 ≤ sizeLine; decide, fun u hu => ?_⟩⟩⟩
          have s4 := Same.new (H := H3) (o := .tup [.int (t : Int), .int o, .ref d]) hu
          have b := (cW.row ht').mem (List.mem_of_getElem? ho)
          have eo : ((o.toNat : Nat) : Int) = o := by omega
          have fnd : fp n R W = some ((t : Int), o) := by
            unfold fp
            rw [prs_cut htW, List.find?_append, f1, Option.none_or]
            have hi' : i < (row W t).length := (List.getElem?_eq_some_iff.mp ho).1
            have ev : (row W t).map (fun x => ((t : Int), x)) = ((row W t).take i).map (fun x => ((t : Int), x)) ++ (((t : Int), o) :: ((row W t).drop (i + 1)).map (fun x => ((t : Int), x))) := by
              conv => lhs; rw [← List.take_append_drop i (row W t), List.drop_eq_getElem_cons hi', (List.getElem?_eq_some_iff.mp ho).2]
              rw [List.map_append, List.map_cons]
            have no : (((row W t).take i).map (fun x => ((t : Int), x))).find? (fun p => shut n R W p.1.toNat p.2) = none := by
              rw [List.find?_eq_none]
              intro p hp
              obtain ⟨x, hx, rfl⟩ := List.mem_map.mp hp
              show ¬ shut n R W t x = true
              rw [f2 x hx]
              exact Bool.false_ne_true
            rw [ev, List.append_assoc, List.find?_append, no, Option.none_or, List.cons_append, List.find?_cons]
            show (match shut n R W t o with | true => some ((t : Int), o) | false => _) = _
            rw [e]
          rcases why with ⟨z, _⟩ | ⟨t', o', z, k⟩
          · rw [fnd] at z; cases z
          · rw [fnd] at z
            injection z with z
            rw [Prod.mk.injEq] at z
            have et : t = t' := by omega
            subst et
            obtain ⟨_, rfl⟩ := z
            exact k _ u d ds ((s2.trans s3).trans s4) upd_same (s4 _ _ hd) (PairsT.same s4 hP)
      · rintro σ H2 ⟨⟨v3, v4, rfl⟩, s2, f2⟩
        rw [vI_len, List.take_length] at f2
        refine ⟨⟨_, _, _, rfl⟩, s2, ?_⟩
        have tk : W.take (t + 1) = W.take t ++ [row W t] := take_more (at_row htW)
        have lt : (W.take t).length = t := by rw [List.length_take]; omega
        rw [tk, prs_append, lt, Nat.zero_add, List.find?_append, f1, Option.none_or]
        show (((row W t).map fun x => ((t : Int), x)) ++ []).find? _ = none
        rw [List.append_nil, List.find?_eq_none]
        intro p hp
        obtain ⟨x, hx, rfl⟩ := List.mem_map.mp hp
        show ¬ shut n R W t x = true
        rw [f2 x hx]
        exact Bool.false_ne_true
    · rintro σ H1 ⟨⟨v2, v3, v4, rfl⟩, s1, f1⟩
      rw [List.take_of_length_le (by rw [cW.1, el]; exact Nat.le_refl _)] at f1
      rcases why with ⟨_, k⟩ | ⟨t', o', z, _⟩
      · exact k _ s1
      · unfold fp at z; rw [f1] at z; cases z
end
end Toy
namespace Toy
open PySem PySem.Spec PyProof.Rows L2
theorem setAtP {α β : Type} {F : α → β → Prop} {x : α} {y : β} (f : F x y) : ∀ {xs : List α} {ys : List β} (i : Nat), Paired F xs ys → Paired F (xs.set i x) (ys.set i y)
  | _, _, _, .nil => .nil
  | _, _, 0, .cons _ t => .cons f t
  | _, _, i + 1, .cons r t => .cons r (setAtP f i t)
theorem ixN_at {n j : Nat} (h : j < n) : ixN n (j : Int) = some j := by
  unfold ixN
  rw [if_pos (by omega), if_pos (by omega), Int.toNat_natCast]
theorem RowsL.stay {H : Hp} {l : Addr} {xs : List V} {ls : List V} {R} (h : RowsL H ls R) (av : ∀ v ∈ ls, v ≠ .ref l) : RowsL (upd H l (.lst xs)) ls R :=
  PairedIn.map h fun v r hv ⟨t, e, q⟩ => ⟨t, e, by rw [upd_ne fun z => av v hv (by rw [e, z])]; exact q⟩
theorem RowsL.out {H : Hp} {l : Addr} {xs ls : List V} {R} (h : RowsL H ls R) (hl : H l = some (.lst xs)) (far : ∃ v ∈ xs, ∃ a, v = V.ref a) : ∀ v ∈ ls, v ≠ .ref l := fun v hv z => by
  obtain ⟨r, _, t, e, q⟩ := Paired.mem h hv
  rw [e] at z
  cases z
  rw [hl] at q
  obtain ⟨u, hu, a, ea⟩ := far
  injection q with q
  injection q with q
  rw [q] at hu
  obtain ⟨x, _, ex⟩ := List.mem_map.mp hu
  rw [ea] at ex
  cases ex
theorem RowsL.avoidS {H : Hp} {D : Addr} {ks : List V} {R} (h : RowsL H ks R) (hk : H D = some (.lst ks)) : ∀ v ∈ ks, v ≠ .ref D := fun v hv z => RowsL.out h hk ⟨v, hv, D, z⟩ v hv z
theorem RowsL.put {H : Hp} {D p : Addr} {ks : List V} {R : List (List Int)} {g : List Int} (h : RowsL H ks R) (hk : H D = some (.lst ks)) (hp : H p = some (.lst (vI g))) (ne : p ≠ D) (i : Nat) :
    RowsL (upd H D (.lst (ks.set i (.ref p)))) (ks.set i (.ref p)) (R.set i g) := setAtP ⟨p, rfl, by rw [upd_ne ne]; exact hp⟩ i (RowsL.stay h (RowsL.avoidS h hk))
end Toy
namespace Toy
open PySem PySem.Spec PyProof.Rows L2
abbrev sIsPairs : Stmt := top 30
def spIsPairs : Sp := fun vs H Q _ => ∃ (a d : Addr) (qs ds : List V) (P : List (Int × Int)), vs = [.ref a, .ref d] ∧ H a = some (.lst qs) ∧ PairsT H qs P ∧ H d = some (.lst ds) ∧ PairsT H ds P ∧ P.length ≤ 100 ∧ ∀ H', Same H H' → Q (.bl true) H'
section
variable {P : Program} {w : World} {K : PySem.W.Frag} {mg : Str → Option Value} {base : Heap}
theorem scIsPairs : FnScope ["_law_value", "_law_due", "_law_k", "_law_pair", "_law_part"] ["_law_value", "_law_due"] (defScope sIsPairs) := ⟨rfl, rfl, rfl, by decide +kernel, rfl, by decide +kernel, by decide +kernel⟩
theorem ok_isPairs {f g : Addr} {fd fdg : FuncData} (F : Fun K "_law_is_pairs" "_law_is_pairs" sIsPairs f fd) (B : Bt mg) (G : Fun K "_law_is_int" "_law_is_int" sIsInt g fdg) (mgG : mg "_law_is_int" = some (.ref g)) (bG : Binds K fdg ["_law_value"] []) :
    FnOk P w K mg base CX0 2 f fd ["_law_value", "_law_due"] spIsPairs := by
  refine F.ok scIsPairs (fun vs H Q E h => ?_) (fun cdv A outer s H vs Q E hr h => ?_)
  · obtain ⟨a, d, qs, ds, P, rfl, _⟩ := h
    rfl
  · obtain ⟨a, d, qs, ds, P, rfl, ha, hP, hd, hD, hlen, k⟩ := h
    refine ⟨_, pss_cons (ps_if (PW.pt (pw_or (pt_not (pt_val (pe_callB call_isi (by rfl) B.isinstance (by decide +kernel) (pa_cons (pv 0) (pa_cons (pe_bltn (v := .ty "list") (u := .type "list") (by rfl) B.list (by decide +kernel) rfl) pa_nil)))))
        (pw_or1 (pt_cmpR op_ne (pe_callB call_len_seq (by rfl) B.len PySem.boot_len (pa_cons (pv 0) pa_nil)) (pe_callB call_len_seq (by rfl) B.len PySem.boot_len (pa_cons (pv 1) pa_nil)) (nomark _))))) (pss_one ps_never) pss_nil)
      (pss_cons (ps_for PassesOwn.never rfl (pi_range1 (by rfl) B.range (pa_cons (pe_callB call_len_seq (by rfl) B.len PySem.boot_len (pa_cons (pv 1) pa_nil)) pa_nil)) (pg_name (i := 2) scIsPairs.nd rfl (Or.inl rfl))
        (pss_cons (ps_set (i := 3) scIsPairs.nd rfl (Or.inl rfl) (pe_ix ix_list (pv 0) (pv 2) (fun _ _ => rfl)))
        (pss_cons (ps_if (PW.pt (pw_or (pt_not (pt_val (pe_callB call_isi (by rfl) B.isinstance (by decide +kernel) (pa_cons (pv 3) (pa_cons (pe_bltn (v := .ty "tuple") (u := .type "tuple") (by rfl) B.tuple (by decide +kernel) rfl) pa_nil)))))
          (pw_or (pt_cmpR op_ne (pe_callB call_len_seq (by rfl) B.len PySem.boot_len (pa_cons (pv 3) pa_nil)) (pe_callB call_len_seq (by rfl) B.len PySem.boot_len (pa_cons (pe_ix ix_list (pv 1) (pv 2) (fun _ _ => rfl)) pa_nil)) (nomark _))
            (pw_or1 (pt_cmpR (op_neD hr.units) (pv 3) (pe_ix ix_list (pv 1) (pv 2) (fun _ _ => rfl)) (nomark _)))))) (pss_one ps_never) pss_nil)
        (pss_one (ps_for PassesOwn.never rfl (pi_tup (pv 3)) (pg_name (i := 4) scIsPairs.nd rfl (Or.inl rfl))
          (pss_one (ps_if (PW.pt (pw_and (pt_not (pt_val (pe_call (ok_isInt G B) hr rfl mgG G.kp bG .nil pass0 (pa_cons (pv 4) pa_nil)))) (pw_and1 (pt_not (pt_val (pe_callB call_isi (by rfl) B.isinstance (by decide +kernel) (pa_cons (pv 4) (pa_cons (pe_bltn (v := .ty "str") (u := .type "str") (by rfl) B.str (by decide +kernel) rfl) pa_nil)))))))) (pss_one ps_never) pss_nil))))))
        )
      (pss_one (ps_ret pe_bl))), ?_⟩
    have eQ : qs.length = P.length := Paired.length hP
    have eD : ds.length = P.length := Paired.length hD
    refine ⟨_, rfl, _, _, .type "list", _, true, rfl, .ty "list", .base (.lst ha), kit_ty (by decide +kernel), _, rfl, iteF ?_⟩
    refine ⟨_, rfl, a, _, rfl, .inl (SqL.of ha), _, rfl, d, _, rfl, .inl (SqL.of hd), rfl, _, rfl, iteNS (by rw [eQ, eD]) ?_⟩
    refine ⟨_, rfl, d, _, rfl, .inl (SqL.of hd), (ds.length : Int), rfl, by omega, by omega, ?_⟩
    refine for_range (lo := 0) (n := ds.length) (fun i σ H' => H' = H ∧ ∃ v2 v3 v4, σ = [some (.ref a), some (.ref d), v2, v3, v4]) ⟨rfl, none, none, none, rfl⟩ ?_ ?_
    · rintro i σ H' hi ⟨rfl, v2, v3, v4, rfl⟩
      obtain ⟨p, hp0⟩ : ∃ p, P[i]? = some p := ⟨_, List.getElem?_eq_getElem (by omega)⟩
      obtain ⟨u1, g1, t1, rfl, q1⟩ := L2.Paired.at2 hP hp0
      obtain ⟨u2, g2, t2, rfl, q2⟩ := L2.Paired.at2 hD hp0
      refine ⟨_, rfl, _, rfl, a, _, _, _, rfl, rfl, SqL.of ha, at_of (j := i) (by omega) g1, ?_⟩
      refine ⟨_, rfl, _, _, .type "tuple", _, true, rfl, .ty "tuple", .base (.tup q1), kit_ty (by decide +kernel), _, rfl, iteF ?_⟩
      refine ⟨_, rfl, t1, _, rfl, .inr (SqT.of q1), _, rfl, _, rfl, d, _, _, _, rfl, rfl, SqL.of hd, at_of (j := i) (by omega) g2, t2, _, rfl, .inr (SqT.of q2), rfl, _, rfl, iteNS rfl ?_⟩
      refine ⟨_, rfl, _, rfl, _, rfl, d, _, _, _, rfl, rfl, SqL.of hd, at_of (j := i) (by omega) g2, _, _, dpP q1, dpP q2, shP p, shP p, _, rfl, ?_⟩
      rw [eqP, decide_eq_true rfl]
      refine iteF ?_
      refine ⟨_, rfl, t1, rfl, ⟨_, SqT.of q1⟩, for_tup (K := K) (a := t1) (xs := vP p) (fun j σ H'' => H'' = H' ∧ ∃ v4, σ = [some (.ref a), some (.ref d), some (.int (0 + (i : Int))), some (.ref t1), v4]) ⟨rfl, v4, rfl⟩ (fun j σ H'' _ ⟨e, _⟩ => by rw [e]; exact SqT.of q1) ?_ ?_⟩
      · rintro j y σ H'' hj ⟨rfl, v4, rfl⟩
        obtain ⟨x, rfl⟩ : ∃ x, y = V.int x := by
          have := List.mem_of_getElem? hj
          simp [vP] at this
          rcases this with h | h
          · exact ⟨_, h⟩
          · exact ⟨_, h⟩
        exact ⟨_, rfl, x, rfl, _, rfl, iteF (iteF ⟨rfl, _, rfl⟩)⟩
      · rintro σ H'' ⟨rfl, v4, rfl⟩
        exact ⟨rfl, _, _, _, rfl⟩
    · rintro σ H' ⟨rfl, v2, v3, v4, rfl⟩
      exact k _ (Same.refl _)
end
end Toy
namespace Toy
open PySem PySem.Spec PyProof.Rows L2
abbrev sLaw : Stmt := top 35
/-- the box and two lists of rows -/
structure D2 (b c l1 l2 : Addr) (ls1 ls2 : List V) (R W : List (List Int)) (H : Hp) : Prop where
  bx : BoxAt H b c
  q1 : off b H l1 = some (.lst ls1)
  r1 : RowsL (off b H) ls1 R
  q2 : off b H l2 = some (.lst ls2)
  r2 : RowsL (off b H) ls2 W
theorem D2.go {b c l1 l2 : Addr} {ls1 ls2 : List V} {R W : List (List Int)} {H H' : Hp} (d : D2 b c l1 l2 ls1 ls2 R W H) (hb : BoxAt H' b c) (s : Same (off b H) (off b H')) : D2 b c l1 l2 ls1 ls2 R W H' :=
  ⟨hb, s _ _ d.q1, RowsL.same s d.r1, s _ _ d.q2, RowsL.same s d.r2⟩
theorem D2.same {b c l1 l2 : Addr} {ls1 ls2 : List V} {R W : List (List Int)} {H H' : Hp} (d : D2 b c l1 l2 ls1 ls2 R W H) (s : Same H H') : D2 b c l1 l2 ls1 ls2 R W H' := d.go (d.bx.same s) (Same.off s)
theorem iteNS {a b : Int} {A B : Prop} (h : a = b) (y : B) : if (!decide (V.int a = V.int b)) = true then A else B := by
  rw [h, decide_eq_true rfl]
  exact iteF y
def dPap (t o : Int) (B : List (Int × Int)) : PyData := .tuple [.int t, .int o, .list (dPs B)]
theorem dpPap {K : PySem.W.Frag} {H : Hp} {u l : Addr} {t o : Int} {ls : List V} {B : List (Int × Int)} (hu : H u = some (.tup [.int t, .int o, .ref l])) (hl : H l = some (.lst ls)) (hP : PairsT H ls B) : Dp K H (.ref u) (dPap t o B) :=
  .tup (SqT.of hu) (.cons (.int _) (.cons (.int _) (.cons (.lst (SqL.of hl) (dpAllP hP)) .nil)))
theorem shPap (t o : Int) (B : List (Int × Int)) : SeqAt.shaped (dPap t o B) = true := by
  have d := dep_dPs B
  have e1 : PyData.canLayAll0 [PyData.int t, .int o, .list (dPs B)] = true := by
    show (PyData.canLay0 (.int t) && (PyData.canLay0 (.int o) && (PyData.canLayAll0 (dPs B) && true))) = true
    rw [lay_dPs]
    rfl
  have e2 : PyData.depthAll [PyData.int t, .int o, .list (dPs B)] ≤ 2 := by
    show max 0 (max 0 (max (PyData.depthAll (dPs B) + 1) 0)) ≤ 2
    omega
  show (PyData.canLayAll0 [PyData.int t, .int o, .list (dPs B)] && decide (PyData.depthAll [PyData.int t, .int o, .list (dPs B)] + 1 ≤ 64)) = true
  rw [e1, decide_eq_true (by omega)]
  rfl
theorem lost_ok {n : Nat} {R W : List (List Int)} (cR : CanR n R) (cW : CanR n W) {t o : Nat} (ht : t < n) (hw : (o : Int) ∈ row W t) (hs : shut n R W t (o : Int) = true) : lostOk R W (t : Int) (o : Int) (blk n R W t o) = true := by
  unfold lostOk
  rw [inT_word (by rw [cW.1]; exact ht), decide_eq_true hw, Bool.true_and, Bool.and_eq_true, List.all_eq_true, List.all_eq_true]
  constructor
  · intro p hp
    unfold blk at hp
    obtain ⟨m, hm, rfl⟩ := List.mem_map.mp hp
    unfold shut at hs
    have ne := List.all_eq_true.mp hs m hm
    cases e : oth n R W m o with
    | nil => rw [e] at ne; cases ne
    | cons x xs =>
      have hx : x ∈ oth n R W m o := by rw [e]; simp
      obtain ⟨j, rfl, hj, hp⟩ := filt_bnd hx
      rw [Bool.and_eq_true, decide_eq_true_iff] at hp
      show (inT R t m && (inT R ((j : Int)) m && !inT W (j : Int) o)) = true
      rw [inT_word (by rw [cR.1]; exact ht), inT_word (by rw [cR.1]; exact hj), inT_word (by rw [cW.1]; exact hj), decide_eq_true hm, decide_eq_true hp.1, hp.2]
      rfl
  · intro m hm
    rw [Int.toNat_natCast] at hm
    rw [decide_eq_true_iff]
    unfold blk
    rw [List.map_map]
    exact List.mem_map.mpr ⟨m, hm, rfl⟩
theorem RowsL.offB {H : Hp} {b c : Addr} {ls : List V} {R} (h : RowsL H ls R) (hb : BoxAt H b c) : RowsL (off b H) ls R :=
  L2.Paired.mapP h fun _ r ⟨t, e, q⟩ => ⟨t, e, by
    obtain ⟨cs, i, pd, st, eb, _⟩ := hb
    rw [off_ne]
    · exact q
    · intro z
      rw [z, eb] at q
      have e : [V.ref c, .int i, .int pd, .int st] = vI r := HO.lst.inj (Option.some.inj q)
      cases r with
      | nil => cases e
      | cons x xs => cases e⟩
structure Al (K : PySem.W.Frag) (mg : Str → Option Value) (C : Addr) : Prop where
  L : Lt K mg
  G : Gs K mg C
  V : Vt K mg C
  O : Op32 K mg C
  fur : ∃ f fd, Fun K "further" "further" sFur f fd ∧ mg "further" = some (.ref f) ∧ Binds K fd ["first", "whole"] []
  lost : ∃ f fd, Fun K "lost_pair" "lost_pair" sLost f fd ∧ mg "lost_pair" = some (.ref f) ∧ Binds K fd ["first", "whole"] []
  miss : ∃ f fd, Fun K "first_missing" "first_missing" sMissing f fd ∧ mg "first_missing" = some (.ref f) ∧ Binds K fd ["whole", "found"] []
  other : ∃ f fd, Fun K "_other_sender" "_other_sender" sOther f fd ∧ mg "_other_sender" = some (.ref f) ∧ Binds K fd ["first", "whole", "mid", "out"] []
  holds : ∃ f fd, Fun K "lost_holds" "lost_holds" sHolds f fd ∧ mg "lost_holds" = some (.ref f) ∧ Binds K fd ["first", "whole", "paper"] []
  box : ∃ f fd, Fun K "_law_box" "_law_box" sBox f fd ∧ mg "_law_box" = some (.ref f) ∧ Binds K fd ["_law_script"] []
  rowsL : ∃ f fd, Fun K "_law_rows" "_law_rows" sRowsL f fd ∧ mg "_law_rows" = some (.ref f) ∧ Binds K fd ["_law_box_here", "_law_n", "_law_least"] []
  join : ∃ f fd, Fun K "_law_join" "_law_join" sJoin f fd ∧ mg "_law_join" = some (.ref f) ∧ Binds K fd ["_law_first", "_law_last"] []
  blocks : ∃ f fd, Fun K "_law_blocks" "_law_blocks" sBlocks f fd ∧ mg "_law_blocks" = some (.ref f) ∧ Binds K fd ["_law_first", "_law_whole", "_law_told", "_law_out"] []
  paper : ∃ f fd, Fun K "_law_paper" "_law_paper" sPaper f fd ∧ mg "_law_paper" = some (.ref f) ∧ Binds K fd ["_law_first", "_law_whole"] []
  isInt : ∃ f fd, Fun K "_law_is_int" "_law_is_int" sIsInt f fd ∧ mg "_law_is_int" = some (.ref f) ∧ Binds K fd ["_law_value"] []
  isP : ∃ f fd, Fun K "_law_is_pairs" "_law_is_pairs" sIsPairs f fd ∧ mg "_law_is_pairs" = some (.ref f) ∧ Binds K fd ["_law_value", "_law_due"] []
  sameL : ∃ f fd, Fun K "_law_same" "_law_same" sSame f fd ∧ mg "_law_same" = some (.ref f) ∧ Binds K fd ["_law_table", "_law_rows_here"] []
section
variable {P : Program} {w : World} {K : PySem.W.Frag} {mg : Str → Option Value} {base : Heap}
abbrev NL : List Str := ["_law_script", "_law_box_here", "_law_n", "_law_first", "_law_whole", "_law_kind", "_law_at", "_law_word", "_law_one", "_law_every", "_law_due", "_law_best", "_law_turn", "_law_paper_here", "_law_out", "_law_row"]
theorem scLaw : FnScope NL ["_law_script"] (defScope sLaw) := ⟨rfl, rfl, rfl, by decide +kernel, rfl, by decide +kernel, by decide +kernel⟩
theorem ok_law {f C : Addr} {fd : FuncData} (F : Fun K "law" "law" sLaw f fd) (S : Al K mg C) : FnOk P w K mg base CX0 8 f fd ["_law_script"] (spLaw K) := by
  obtain ⟨fT, fdT, FT, mT, bT⟩ := S.L.take
  obtain ⟨fN, fdN, FN, MN, bN⟩ := S.O.init
  obtain ⟨fZ, fdZ, FZ, mZ, bZ⟩ := S.O.chSame
  obtain ⟨fU, fdU, FU, mU, bU⟩ := S.O.out
  obtain ⟨fM, fdM, FM, ⟨m1, m2⟩, bM⟩ := S.O.mul
  obtain ⟨fJ, fdJ, FJ, ⟨mJ, mJ2⟩, bJ⟩ := S.O.invert
  obtain ⟨fE, fdE, FE, mE, bE⟩ := S.O.each
  obtain ⟨fR, fdR, FRs, ⟨r1, r2⟩, bRs⟩ := S.O.rsh
  obtain ⟨fQ, fdQ, FQ, ⟨q1, q2⟩, bQ⟩ := S.O.eq
  obtain ⟨fC, fdC, FC, ⟨c1, c2⟩, bC⟩ := S.O.cont
  obtain ⟨fG, fdG, FG, ⟨g1, g2, g3⟩, bG⟩ := S.O.item
  obtain ⟨fB, fdB, FB, mB, bB⟩ := S.box
  obtain ⟨fRL, fdRL, FRL, mRL, bRL⟩ := S.rowsL
  obtain ⟨fJn, fdJn, FJn, mJn, bJn⟩ := S.join
  obtain ⟨fBk, fdBk, FBk, mBk, bBk⟩ := S.blocks
  obtain ⟨fPa, fdPa, FPa, mPa, bPa⟩ := S.paper
  obtain ⟨fFu, fdFu, FFu, mFu, bFu⟩ := S.fur
  obtain ⟨fLo, fdLo, FLo, mLo, bLo⟩ := S.lost
  obtain ⟨fMi, fdMi, FMi, mMi, bMi⟩ := S.miss
  obtain ⟨fOt, fdOt, FOt, mOt, bOt⟩ := S.other
  obtain ⟨fHo, fdHo, FHo, mHo, bHo⟩ := S.holds
  obtain ⟨fII, fdII, FII, mII, bII⟩ := S.isInt
  obtain ⟨fIp, fdIp, FIp, mIp, bIp⟩ := S.isP
  obtain ⟨fS, fdS, FS, mS, bS⟩ := S.sameL
  have B := S.L.B
  have Gs := S.G
  refine F.ok scLaw (fun vs H Q E h => ?_) (fun cdv A outer s H vs Q E hr h => ?_)
  · obtain ⟨a, ns, rfl, _⟩ := h
    rfl
  · obtain ⟨a, ns, rfl, hS, hlen, k⟩ := h
    have hr1 : Room 1 _ := hr.mono (by decide)
    have hr2 : Room 2 _ := hr.mono (by decide)
    have hr3 : Room 3 _ := hr.mono (by decide)
    have hr4 : Room 4 _ := hr.mono (by decide)
    have hr5 : Room 5 _ := hr.mono (by decide)
    have hr6 : Room 6 _ := hr.mono (by decide)
    have hr7 : Room 7 _ := hr.mono (by decide)
    refine ⟨_, pss_cons (ps_set (i := 1) scLaw.nd rfl (Or.inl rfl) (pe_call (ok_box FB B) hr1 rfl mB FB.kp bB .nil pass0 (pa_cons (pv 0) pa_nil)))
      (pss_cons (ps_set (i := 2) scLaw.nd rfl (Or.inl rfl) (pe_op op_add pe_int (pe_call (ok_take FT B) hr1 rfl mT FT.kp bT .nil pass0 (pa_cons (pv 1) (pa_cons pe_int pa_nil)))))
      (pss_cons (ps_set (i := 3) scLaw.nd rfl (Or.inl rfl) (pe_call (ok_rowsL FRL S.L) hr3 rfl mRL FRL.kp bRL .nil pass0 (pa_cons (pv 1) (pa_cons (pv 2) (pa_cons pe_int pa_nil)))))
      (pss_cons (ps_set (i := 4) scLaw.nd rfl (Or.inr rfl) (pe_call (ok_rowsL FRL S.L) hr3 rfl mRL FRL.kp bRL .nil pass0 (pa_cons (pv 1) (pa_cons (pv 2) (pa_cons pe_int pa_nil)))))
      (pss_cons (ps_set (i := 5) scLaw.nd rfl (Or.inl rfl) (pe_call (ok_take FT B) hr1 rfl mT FT.kp bT .nil pass0 (pa_cons (pv 1) (pa_cons pe_int pa_nil))))
      (C8.pss_cut (ps_if (pt_cmpR op_gt (pv 5) pe_int (nomark _)) (pss_one (ps_set (i := 4) scLaw.nd rfl (Or.inr rfl) (pe_call (ok_join FJn B) hr1 rfl mJn FJn.kp bJn .nil pass0 (pa_cons (pv 3) (pa_cons (pv 4) pa_nil))))) pss_nil)
      (C8.pss_cut (ps_if (pt_cmpR op_eq (pv 5) pe_int (nomark _)) (pss_cons (ps_set (i := 6) scLaw.nd rfl (Or.inr rfl) (pe_call (ok_take FT B) hr1 rfl mT FT.kp bT .nil pass0 (pa_cons (pv 1) (pa_cons (pv 2) pa_nil))))
      (pss_cons (ps_set (i := 7) scLaw.nd rfl (Or.inr rfl) (pe_call (ok_take FT B) hr1 rfl mT FT.kp bT .nil pass0 (pa_cons (pv 1) (pa_cons (pv 2) pa_nil))))
      (pss_one (ps_asg (pe_lc (own := [("_law_out", 14)]) (g := (gName 14)) (tt := (tTest (tOp rNe (tOp (rIn K false) (tVar 14) (tOp (rIxL K) (tVar 4) (tVar 6))) (tOp rEq (tVar 14) (tVar 7))))) (te := (tVar 14)) rfl scLaw.nd (pi_range1 (by rfl) B.range (pa_cons (pv 2) pa_nil)) (blkOk_by (own := [("_law_out", 14)]) (N := NL) (sc := defScope sLaw) (by decide +kernel)) (fun _ _ _ _ _ => (pg_name (i := 14) scLaw.nd rfl (Or.inl rfl))) (fun _ _ _ _ _ => pts_one (pt_cmpR op_ne (pe_cmpR op_in_seq (pv 14) (pe_ix ix_list (pv 4) (pv 6) (fun _ _ => rfl)) (by rfl)) (pe_cmpR op_eq (pv 14) (pv 7) (nomark _)) (nomark _))) (fun _ _ _ _ _ => (pv 14))) (pg_sub (pv 4) (pv 6) set_list))))) pss_nil)
      (pss_cons (ps_set (i := 8) scLaw.nd rfl (Or.inl rfl) (pe_make MN (ok_init FN Gs) hr4 rfl Gs.T.mgC bN .nil pass0 (pa_cons (pe_lc (own := [("_law_row", 15)]) (g := (gName 15)) (tt := tYes) (te := (tCB (rLst K) (tCons (tVar 15) tNil))) rfl scLaw.nd (pi_list (pv 3)) (blkOk_by (own := [("_law_row", 15)]) (N := NL) (sc := defScope sLaw) (by decide +kernel)) (fun _ _ _ _ _ => (pg_name (i := 15) scLaw.nd rfl (Or.inl rfl))) (fun _ _ _ _ _ => pts_nil) (fun _ _ _ _ _ => (pe_callTy call_list_of (by rfl) B.list (by decide +kernel) (pa_cons (pv 15) pa_nil)))) pa_nil)))
      (pss_cons (ps_set (i := 9) scLaw.nd rfl (Or.inl rfl) (pe_make MN (ok_init FN Gs) hr4 rfl Gs.T.mgC bN .nil pass0 (pa_cons (pe_lc (own := [("_law_row", 15)]) (g := (gName 15)) (tt := tYes) (te := (tCB (rLst K) (tCons (tVar 15) tNil))) rfl scLaw.nd (pi_list (pv 4)) (blkOk_by (own := [("_law_row", 15)]) (N := NL) (sc := defScope sLaw) (by decide +kernel)) (fun _ _ _ _ _ => (pg_name (i := 15) scLaw.nd rfl (Or.inl rfl))) (fun _ _ _ _ _ => pts_nil) (fun _ _ _ _ _ => (pe_callTy call_list_of (by rfl) B.list (by decide +kernel) (pa_cons (pv 15) pa_nil)))) pa_nil)))
      (C8.pss_cut (ps_set (i := 10) scLaw.nd rfl (Or.inl rfl) (pe_call (ok_paper FPa B FBk mBk bBk) hr2 rfl mPa FPa.kp bPa .nil pass0 (pa_cons (pv 3) (pa_cons (pv 4) pa_nil))))
      (C8.pss_cut (ps_set (i := 11) scLaw.nd rfl (Or.inl rfl) (pe_call (ok_fur FFu S.G S.O) hr7 rfl mFu FFu.kp bFu .nil pass0 (pa_cons (pv 8) (pa_cons (pv 9) pa_nil))))
      (pss_cons (ps_for PassesOwn.never rfl (pi_range1 (by rfl) B.range (pa_cons pe_int pa_nil)) (pg_name (i := 12) scLaw.nd rfl (Or.inl rfl)) (pss_cons (ps_set (i := 13) scLaw.nd rfl (Or.inl rfl) (pe_call (ok_lost FLo S.G S.O FMi mMi bMi FOt mOt bOt) hr7 rfl mLo FLo.kp bLo .nil pass0 (pa_cons (pv 8) (pa_cons (pv 9) pa_nil))))
      (pss_cons (ps_if (pt_cmpR op_isN (pv 10) pe_non (nomark _)) (pss_one (ps_ret (pe_and (pe_cmpR op_isN (pv 13) pe_non (nomark _)) (pe_and (pe_cmpR op_notN (pv 11) pe_non (nomark _)) (pe_and (pe_cmpR (op_cmp (fun _ _ => rfl) (ok_eqT FQ Gs S.O.I) hr1 bQ pass0 S.O.nf q1 q2) (pe_op (op_bin (ok_mul FM Gs FN MN bN FU mU bU FZ mZ bZ) hr5 bM pass0 S.O.sf m1 m2) (pv 8) (pv 11)) (pv 9) (nomark _)) (pe_one (pe_cmpR (op_cmp (fun _ _ => rfl) (ok_eqT FQ Gs S.O.I) hr1 bQ pass0 S.O.nf q1 q2) (pv 11) (pe_op (op_bin (ok_Rsh FRs Gs FN MN bN FE mE bE FZ mZ bZ FJ mJ mJ2 bJ) hr6 bRs pass0 S.O.sf r1 r2) (pv 8) (pv 9)) (nomark _)))))))) pss_nil)
      (pss_cons (ps_if (PW.pt (pw_or (pt_cmpR op_notN (pv 11) pe_non (nomark _)) (pw_or (pt_not (pt_val (pe_callB call_isi (by rfl) B.isinstance (by decide +kernel) (pa_cons (pv 13) (pa_cons (pe_bltn (v := .ty "tuple") (u := .type "tuple") (by rfl) B.tuple (by decide +kernel) rfl) pa_nil))))) (pw_or (pt_cmpR op_ne (pe_callB call_len_seq (by rfl) B.len PySem.boot_len (pa_cons (pv 13) pa_nil)) pe_int (nomark _)) (pw_or1 (pt_cmpR (op_neD hr.units) (pv 13) (pv 10) (nomark _))))))) (pss_one ps_never) pss_nil)
      (pss_cons (ps_if (PW.pt (pw_or (pt_not (pt_val (pe_call (ok_isInt FII B) hr1 rfl mII FII.kp bII .nil pass0 (pa_cons (pe_ix ix_tup (pv 13) pe_int (fun _ _ => rfl)) pa_nil)))) (pw_or (pt_not (pt_val (pe_call (ok_isInt FII B) hr1 rfl mII FII.kp bII .nil pass0 (pa_cons (pe_ix ix_tup (pv 13) pe_int (fun _ _ => rfl)) pa_nil)))) (pw_or1 (pt_not (pt_val (pe_call (ok_isPairs FIp B FII mII bII) hr2 rfl mIp FIp.kp bIp .nil pass0 (pa_cons (pe_ix ix_tup (pv 13) pe_int (fun _ _ => rfl)) (pa_cons (pe_ix ix_tup (pv 10) pe_int (fun _ _ => rfl)) pa_nil))))))))) (pss_one ps_never) pss_nil)
      (pss_one (ps_if (PW.pt (pw_or (pt_cmpR op_notBl (pe_call (ok_holds FHo S.G FZ mZ bZ FC c1 c2 bC FG g1 g2 g3 bG) hr5 rfl mHo FHo.kp bHo .nil pass0 (pa_cons (pv 8) (pa_cons (pv 9) (pa_cons (pv 13) pa_nil)))) pe_bl (nomark _)) (pw_or1 (pt_cmpR (op_cmp (fun _ _ => rfl) (ok_eqT FQ Gs S.O.I) hr1 bQ pass0 S.O.nf q1 q2) (pe_op (op_bin (ok_mul FM Gs FN MN bN FU mU bU FZ mZ bZ) hr5 bM pass0 S.O.sf m1 m2) (pv 8) (pe_op (op_bin (ok_Rsh FRs Gs FN MN bN FE mE bE FZ mZ bZ FJ mJ mJ2 bJ) hr6 bRs pass0 S.O.sf r1 r2) (pv 8) (pv 9))) (pv 9) (nomark _))))) (pss_one ps_never) pss_nil)))))))
      (pss_one (ps_ret (pe_and (pe_call (ok_same FS S.V) hr3 rfl mS FS.kp bS .nil pass0 (pa_cons (pv 8) (pa_cons (pv 3) pa_nil))) (pe_one (pe_call (ok_same FS S.V) hr3 rfl mS FS.kp bS .nil pass0 (pa_cons (pv 9) (pa_cons (pv 4) pa_nil)))))))))))))))))), ?_⟩
    refine ⟨_, rfl, a, ns, rfl, hS, hlen, fun H1 b c s1 hb0 hb1 => ?_⟩
    refine ⟨_, rfl, b, c, 6, rfl, hb1, by decide, by decide, fun r0 H2 hr2' hb2 s2 => ?_⟩
    refine ⟨_, _, rfl, rfl, ?_⟩
    have en : (1 : Int) + (r0 : Int) = ((r0 + 1 : Nat) : Int) := by omega
    have eV : (fun (i j : Int) => V.int (i + j)) 1 (r0 : Int) = V.int ((r0 + 1 : Nat) : Int) := congrArg V.int en
    rw [eV]
    have n1 : 1 ≤ r0 + 1 := by omega
    have n6 : r0 + 1 ≤ 6 := by omega
    generalize r0 + 1 = n at n1 n6
    refine ⟨_, rfl, _, rfl, b, c, n, 0, rfl, hb2, n1, n6, by decide, by decide, fun H3 l1 ls1 R hb3 s3 l10 hl1 hR eR hCR => ?_⟩
    refine ⟨_, rfl, _, rfl, b, c, n, 0, rfl, hb3, n1, n6, by decide, by decide, fun H4 l2 ls2 X hb4 s4 l20 hl2 hX eX hCX => ?_⟩
    have cR : CanR n R := ⟨eR, hCR⟩
    have cX : CanR n X := ⟨eX, hCX⟩
    have cl2 : l2 ≠ c := by
      obtain ⟨cs, i, p, st, _, h2, h3, _⟩ := hb3
      refine (ne_of_none (H := off b H3) (o := .lst (vI cs)) ?_ l20).symm
      rw [off_ne h3]
      exact h2
    have nl12 : l1 ≠ l2 := ne_of_none hl1 l20
    have d4 : D2 b c l1 l2 ls1 ls2 R X H4 := ⟨hb4, s4 _ _ hl1, RowsL.same s4 (RowsN.rows hR), hl2, RowsN.rows hX⟩
    clear hR hX hl1 hl2 s4 s3 hb4 hb3 hb2 hb1 s2 s1
    refine ⟨_, rfl, b, c, 3, rfl, d4.bx, by decide, by decide, fun kd H5 hkd hb5 s5 => ?_⟩
    have d5 := d4.go hb5 s5
    clear d4 s5 hb5
    -- kind above 0
    refine ⟨fun σ' H' => ∃ (lw : Addr) (lsw : List V) (W : List (List Int)), σ' = [some (.ref a), some (.ref b), some (.int n), some (.ref l1), some (.ref lw), some (.int kd), none, none, none, none, none, none, none, none, none, none] ∧
        D2 b c l1 lw ls1 lsw R W H' ∧ l1 ≠ lw ∧ lw ≠ c ∧ CanR n W, ?_, ?_⟩
    · refine ⟨_, rfl, _, _, rfl, rfl, _, rfl, ite2 (fun _ => ?_) (fun _ => ⟨l2, ls2, X, rfl, d5, nl12, cl2, cX⟩)⟩
      have q1 := off_le _ _ d5.q1
      have q2 := off_le _ _ d5.q2
      have r1 := RowsL.same off_le d5.r1
      have r2 := RowsL.same off_le d5.r2
      refine ⟨_, rfl, _, rfl, l1, l2, ls1, ls2, n, R, X, rfl, q1, r1, q2, r2, cR, cX, n6, fun H6 w1 k1 s6 w10 hw1 hk1 => ?_⟩
      have d6 := d5.same s6
      have b1 := d5.bx.ne w10
      exact ⟨w1, k1, mul R X, rfl, ⟨d6.bx, d6.q1, d6.r1, by rw [off_ne b1]; exact hw1, RowsL.offB hk1 d6.bx⟩, ne_of_none q1 w10, d5.bx.nec w10, mul_canN cR cX⟩
    rintro σ' H6 ⟨lw, lsw, W, rfl, d6, nlw, nlc, cW⟩
    clear d5
    -- kind 2
    refine ⟨fun σ' H' => ∃ (v7 v8 : Option V) (lsw : List V) (W : List (List Int)), σ' = [some (.ref a), some (.ref b), some (.int n), some (.ref l1), some (.ref lw), some (.int kd), v7, v8, none, none, none, none, none, none, none, none] ∧
        D2 b c l1 lw ls1 lsw R W H' ∧ CanR n W, ?_, ?_⟩
    · refine ⟨_, rfl, rfl, _, rfl, ite2 (fun _ => ?_) (fun _ => ⟨none, none, lsw, W, rfl, d6, cW⟩)⟩
      refine ⟨_, rfl, _, rfl, b, c, (n : Int), rfl, d6.bx, by omega, by omega, fun at_ H7 hat hb7 s7 => ?_⟩
      have d7 := d6.go hb7 s7
      refine ⟨_, rfl, _, rfl, b, c, (n : Int), rfl, d7.bx, by omega, by omega, fun wd H8 hwd hb8 s8 => ?_⟩
      have d8 := d7.go hb8 s8
      clear d6 d7 s7 s8 hb7 hb8
      obtain ⟨u, hu, t, rfl, ht⟩ := L2.Paired.at2 d8.r2 (at_row (by rw [cW.1]; omega : at_ < W.length))
      refine ⟨_, rfl, n, rfl, by omega, by omega, fun D hD => ?_⟩
      have Db := d8.bx.ne hD
      refine lc_range (lo := 0) (n := n) (fun j H' => Same H8 H' ∧ ∃ p, H' D = some (.lst (vI (filt j p)))) ⟨Same.new hD, fun _ => true, upd_same⟩ ?_ ?_
      · rintro j H9 hj ⟨s9, p, hd⟩
        have e0 : (0 : Int) + (j : Int) = (j : Int) := Int.zero_add _
        rw [e0]
        have d9 := d8.same s9
        have st := Same.off (b := b) s9
        refine ⟨rfl, ?_⟩
        refine ⟨_, rfl, _, rfl, _, rfl, lw, _, _, _, rfl, rfl, SqL.of (off_le _ _ d9.q2), atI_nat hu, t, _, rfl, .inl (SqL.of (off_le _ _ (st _ _ ht))), rfl, flat_vI _, ?_⟩
        refine ⟨_, rfl, _, rfl, rfl, rfl, _, rfl, ite2 (fun y => ?_) (fun y => ?_)⟩
        · refine ⟨_, rfl, _, hd, ?_, Same.updN s9 hD, fun i => if i = j then true else p i, ?_⟩
          · rw [vI_len]
            have := (filt_can (n := j) p).len
            exact Nat.lt_of_le_of_lt (by omega : _ ≤ 6) (by decide)
          · rw [upd_same, filt_succ, if_pos (by simp)]
            unfold vI
            rw [List.map_append, filt_congr (n := j) (p := fun i => if i = j then true else p i) (q := p) (fun i hi => by simp [show ¬ i = j by omega])]
            rfl
        · refine ⟨s9, fun i => if i = j then false else p i, ?_⟩
          rw [filt_succ, if_neg (by simp), filt_congr (q := p) (fun i hi => by simp [show ¬ i = j by omega])]
          exact hd
      rintro H9 ⟨s9, p, hd⟩
      have d9 := d8.same s9
      have lwb := off_ne_of d9.q2
      have hdo : off b H9 D = some (.lst (vI (filt n p))) := by rw [off_ne Db]; exact hd
      have nD : D ≠ lw := (ne_of_none (off_le _ _ d8.q2) hD).symm
      obtain ⟨u9, hu9⟩ : ∃ v, lsw[0]? = some v := ⟨_, List.getElem?_eq_getElem (by rw [Paired.length d9.r2, cW.1]; omega)⟩
      obtain ⟨_, _, t9, e9, _⟩ := L2.Paired.at d9.r2 hu9
      refine ⟨_, rfl, _, rfl, lw, _, _, at_, rfl, rfl, off_le _ _ d9.q2, ixN_at (by rw [Paired.length d9.r2, cW.1]; omega), ?_⟩
      refine ⟨_, _, lsw.set at_ (.ref D), W.set at_ (filt n p), rfl, ⟨d9.bx.upd lwb nlc, ?_, ?_, ?_, ?_⟩, ⟨by rw [List.length_set]; exact cW.1, fun r hr => ?_⟩⟩
      · rw [off_updN lwb, upd_ne nlw]; exact d9.q1
      · rw [off_updN lwb]; exact RowsL.stay d9.r1 (RowsL.out d9.r1 d9.q2 ⟨u9, List.mem_of_getElem? hu9, t9, e9⟩)
      · rw [off_updN lwb, upd_same]
      · rw [off_updN lwb]; exact RowsL.put d9.r2 d9.q2 hdo nD at_
      · rcases List.mem_or_eq_of_mem_set hr with m | m
        · exact cW.2 _ m
        · rw [m]; exact filt_can _
    rintro σ' H7 ⟨v7, v8, lsw', W', rfl, d7, cW'⟩
    clear d6 cW nlw nlc
    generalize lsw' = lsw at d7
    generalize W' = W at d7 cW'
    have cW := cW'
    clear cW'
    -- the tables
    have p1 := off_le _ _ d7.q1
    have p2 := off_le _ _ d7.q2
    have R1 := RowsL.same off_le d7.r1
    have R2 := RowsL.same off_le d7.r2
    refine ⟨_, rfl, l1, rfl, ⟨_, SqL.of p1⟩, fun D hD => copies (by show 15 < 16; decide) hD p1 R1 (by omega) fun H8 ks s8 hk hKs => ?_⟩
    refine init_of hk hKs cR n1 n6 fun H9 x1 s9 x10 hT1 => ?_
    have s79 := s8.trans s9
    refine ⟨_, rfl, lw, rfl, ⟨_, SqL.of (s79 _ _ p2)⟩, fun D' hD' => copies (by show 15 < 16; decide) hD' (s79 _ _ p2) (RowsL.same s79 R2) (by rw [cW.1]; omega) fun H10 ks' s10 hk' hKs' => ?_⟩
    refine init_of hk' hKs' cW n1 n6 fun H0 x2 s11 x20 T2 => ?_
    have s911 := s10.trans s11
    have s70 := s79.trans s911
    have T1 := hT1.same s911
    have q1 := s70 _ _ p1
    have q2 := s70 _ _ p2
    have r1 := RowsL.same s70 R1
    have r2 := RowsL.same s70 R2
    have d0 := d7.same s70
    have eRW : R.length = W.length := by rw [cR.1, cW.1]
    have cRl : CanR R.length R := by rw [cR.1]; exact cR
    clear hk hKs hk' hKs' hT1 s8 s9 s10 s11 s79 s911 s70 p1 p2 R1 R2 d7 x10 x20 hD hD'
    -- what is due, the best table
    refine ⟨fun σ' H' => ∃ v10, σ' = [some (.ref a), some (.ref b), some (.int n), some (.ref l1), some (.ref lw), some (.int kd), v7, v8, some (.ref x1), some (.ref x2), v10, none, none, none, none, none] ∧ Same H0 H' ∧
        ((fp n R W = none ∧ v10 = some .non) ∨ ∃ (t o : Nat) (u l : Addr) (ls : List V), fp n R W = some ((t : Int), (o : Int)) ∧ v10 = some (.ref u) ∧ H' u = some (.tup [.int t, .int o, .ref l]) ∧ H' l = some (.lst ls) ∧ PairsT H' ls (blk n R W t o)), ?_, ?_⟩
    · refine ⟨_, rfl, _, rfl, l1, lw, ls1, lsw, n, R, W, rfl, q1, r1, q2, r2, cR, cW, n6, ?_⟩
      cases e : fp n R W with
      | none => exact .inl ⟨rfl, fun H1 s1 => ⟨_, rfl, s1, .inl ⟨rfl, rfl⟩⟩⟩
      | some p =>
        obtain ⟨t, o, rfl, _⟩ := fp_some cW e
        exact .inr ⟨t, o, rfl, fun H1 u l ls s1 hu hl hP => ⟨_, rfl, s1, .inr ⟨t, o, u, l, ls, rfl, rfl, hu, hl, hP⟩⟩⟩
    rintro σ' H1 ⟨v10, rfl, s1, due⟩
    refine ⟨fun σ' H' => ∃ v11, σ' = [some (.ref a), some (.ref b), some (.int n), some (.ref l1), some (.ref lw), some (.int kd), v7, v8, some (.ref x1), some (.ref x2), v10, v11, none, none, none, none] ∧ Same H0 H' ∧
        ((fp n R W = none ∧ v10 = some .non ∧ ∃ x, v11 = some (.ref x) ∧ Tab C H' x (rsh R W)) ∨ ∃ (t o : Nat) (u l : Addr) (ls : List V), fp n R W = some ((t : Int), (o : Int)) ∧ v10 = some (.ref u) ∧ v11 = some .non ∧ H' u = some (.tup [.int t, .int o, .ref l]) ∧ H' l = some (.lst ls) ∧ PairsT H' ls (blk n R W t o)), ?_, ?_⟩
    · refine ⟨_, rfl, _, rfl, x1, x2, R, W, rfl, T1.same s1, T2.same s1, eRW, cRl, ?_⟩
      rcases due with ⟨e, rfl⟩ | ⟨t, o, u, l, ls, e, rfl, hu, hl, hP⟩
      · exact .inl ⟨(fp_none cR cW).mp e, fun H2 x s2 _ hX => ⟨_, rfl, s1.trans s2, .inl ⟨e, rfl, x, rfl, hX⟩⟩⟩
      · exact .inr ⟨fun z => (by rw [(fp_none cR cW).mpr z] at e; cases e), fun H2 s2 => ⟨_, rfl, s1.trans s2, .inr ⟨t, o, u, l, ls, e, rfl, rfl, s2 _ _ hu, s2 _ _ hl, PairsT.same s2 hP⟩⟩⟩
    rintro σ' H2 ⟨v11, rfl, s2, what⟩
    refine ⟨2, rfl, by decide, by decide, ?_⟩
    have cG : CanR n (rsh R W) := rsh_canN cR cW
    rcases what with ⟨e, rfl, x, rfl, hX⟩ | ⟨t, o, u, l, ls, e, rfl, rfl, hu, hl, hP⟩
    · have eM := (fp_none cR cW).mp e
      refine for_range (lo := 0) (n := 2) (fun i σ H' => i = 0 ∧ (∃ v12 v13, σ = [some (.ref a), some (.ref b), some (.int n), some (.ref l1), some (.ref lw), some (.int kd), v7, v8, some (.ref x1), some (.ref x2), some .non, some (.ref x), v12, v13, none, none]) ∧ Same H2 H')
        ⟨rfl, ⟨none, none, rfl⟩, Same.refl _⟩ ?_ (fun σ H' ⟨z, _⟩ => by cases z)
      rintro i σ H3 hi ⟨_, ⟨v12, v13, rfl⟩, s3⟩
      have s03 := s2.trans s3
      refine ⟨_, rfl, _, rfl, x1, x2, n, R, W, rfl, T1.same s03, T2.same s03, cR, cW, .inl ⟨e, fun H4 s4 => ?_⟩⟩
      have s04 := s03.trans s4
      have Y1 := T1.same s04
      have Y2 := T2.same s04
      have YX := hX.same (s3.trans s4)
      obtain ⟨e1, _, _, _, _, y1, _⟩ := id Y1
      obtain ⟨e2, _, _, _, _, y2, _⟩ := id Y2
      obtain ⟨e3, _, _, _, _, y3, _⟩ := id YX
      refine ⟨_, rfl, rfl, _, rfl, iteYes rfl ⟨_, rfl, rfl, _, rfl, iteYes rfl ⟨_, rfl, rfl, _, rfl, iteNoN (fun z => by cases z) ?_⟩⟩⟩
      refine ⟨_, rfl, _, rfl, x1, e1, _, x, e3, _, rfl, rfl, y1, y3, x1, x, R, rsh R W, rfl, Y1, YX, by rw [rsh_len], (by rw [cR.1]; exact cR.2), fun H5 z s5 z0 hZ => ?_⟩
      obtain ⟨e4, _, _, _, _, y4, _⟩ := id hZ
      refine ⟨_, rfl, z, e4, _, x2, e2, _, rfl, rfl, y4, s5 _ _ y2, z, x2, mul R (rsh R W), W, rfl, hZ, Y2.same s5, _, rfl, iteYes eM ?_⟩
      refine ⟨_, rfl, _, rfl, _, rfl, x1, e1, _, x2, e2, _, rfl, rfl, s5 _ _ y1, s5 _ _ y2, x1, x2, R, W, rfl, Y1.same s5, Y2.same s5, eRW, fun H6 z2 s6 _ hZ2 => ?_⟩
      obtain ⟨e5, _, _, _, _, y5, _⟩ := id hZ2
      have s56 := s5.trans s6
      refine ⟨x, e3, _, z2, e5, _, rfl, rfl, s56 _ _ y3, y5, x, z2, rsh R W, rsh R W, rfl, YX.same s56, hZ2, ?_⟩
      rw [decide_eq_true rfl]
      exact k _
    · obtain ⟨t', o', e', ht, ho, hw, hs⟩ := fp_some cW e
      rw [Prod.mk.injEq] at e'
      have et : t = t' := by omega
      have eo : o = o' := by omega
      subst et eo
      have nM : mul R (rsh R W) ≠ W := fun z => by rw [(fp_none cR cW).mpr z] at e; cases e
      have bl : (blk n R W t o).length ≤ 6 := by
        unfold blk
        rw [List.length_map]
        have := (cR.row ht).len
        omega
      refine for_range (lo := 0) (n := 2) (fun i σ H' => (∃ v12 v13, σ = [some (.ref a), some (.ref b), some (.int n), some (.ref l1), some (.ref lw), some (.int kd), v7, v8, some (.ref x1), some (.ref x2), some (.ref u), some .non, v12, v13, none, none]) ∧ Same H2 H')
        ⟨⟨none, none, rfl⟩, Same.refl _⟩ ?_ ?_
      · rintro i σ H3 hi ⟨⟨v12, v13, rfl⟩, s3⟩
        have s03 := s2.trans s3
        refine ⟨_, rfl, _, rfl, x1, x2, n, R, W, rfl, T1.same s03, T2.same s03, cR, cW, .inr ⟨t, o, e, fun H4 u2 l2' ls2' s4 hu2 hl2 hP2 => ?_⟩⟩
        have s24 := s3.trans s4
        have s04 := s2.trans s24
        refine ⟨_, rfl, rfl, _, rfl, iteNo (fun z => by cases z) ?_⟩
        -- the form of the paper
        refine ⟨_, rfl, rfl, _, rfl, iteYesN rfl ?_⟩
        refine ⟨_, rfl, _, _, .type "tuple", _, true, rfl, .ty "tuple", .base (.tup hu2), kit_ty (by decide +kernel), _, rfl, iteF ?_⟩
        refine ⟨_, rfl, u2, _, rfl, .inr (SqT.of hu2), rfl, _, rfl, iteNS rfl ?_⟩
        refine ⟨_, rfl, _, rfl, _, _, dpPap hu2 hl2 hP2, dpPap (s24 _ _ hu) (s24 _ _ hl) (PairsT.same s24 hP), shPap _ _ _, shPap _ _ _, _, rfl, ?_⟩
        rw [SeqAt.eqv_refl _ (SeqAt.canLay_of_shaped (shPap _ _ _))]
        refine iteF ?_
        refine ⟨_, rfl, u2, _, _, _, rfl, rfl, SqT.of hu2, atI_nat (xs := [V.int t, V.int o, V.ref l2']) (j := 0) rfl, (t : Int), rfl, _, rfl, iteF ?_⟩
        refine ⟨_, rfl, u2, _, _, _, rfl, rfl, SqT.of hu2, atI_nat (xs := [V.int t, V.int o, V.ref l2']) (j := 1) rfl, (o : Int), rfl, _, rfl, iteF ?_⟩
        refine ⟨_, rfl, u2, _, _, _, rfl, rfl, SqT.of hu2, atI_nat (xs := [V.int t, V.int o, V.ref l2']) (j := 2) rfl, _, rfl, u, _, _, _, rfl, rfl, SqT.of (s24 _ _ hu), atI_nat (xs := [V.int t, V.int o, V.ref l]) (j := 2) rfl,
          l2', l, ls2', ls, blk n R W t o, rfl, hl2, hP2, s24 _ _ hl, PairsT.same s24 hP, by omega, fun H5 s5 => ⟨_, rfl, iteF ?_⟩⟩
        have s25 := s24.trans s5
        have s05 := s2.trans s25
        -- it holds
        refine ⟨_, rfl, _, rfl, _, rfl, x1, x2, u2, l2', ls2', R, W, (t : Int), (o : Int), blk n R W t o, rfl, T1.same s05, T2.same s05, eRW, s5 _ _ hu2, s5 _ _ hl2, PairsT.same s5 hP2, by omega, fun H6 s6 => ?_⟩
        rw [lost_ok cR cW ht hw hs]
        refine ⟨true, true, rfl, rfl, _, rfl, iteYesN rfl ?_⟩
        have s26 := s25.trans s6
        have s06 := s2.trans s26
        have Y1 := T1.same s06
        have Y2 := T2.same s06
        obtain ⟨e1, _, _, _, _, y1, _⟩ := id Y1
        obtain ⟨e2, _, _, _, _, y2, _⟩ := id Y2
        refine ⟨_, rfl, _, rfl, _, rfl, x1, e1, _, x2, e2, _, rfl, rfl, y1, y2, x1, x2, R, W, rfl, Y1, Y2, eRW, fun H7 z s7 _ hZ => ?_⟩
        obtain ⟨e3, _, _, _, _, y3, _⟩ := id hZ
        refine ⟨x1, e1, _, z, e3, _, rfl, rfl, s7 _ _ y1, y3, x1, z, R, rsh R W, rfl, Y1.same s7, hZ, by rw [rsh_len], (by rw [cR.1]; exact cR.2), fun H8 y s8 _ hY => ?_⟩
        obtain ⟨e4, _, _, _, _, y4, _⟩ := id hY
        have s78 := s7.trans s8
        exact ⟨_, rfl, y, e4, _, x2, e2, _, rfl, rfl, y4, s78 _ _ y2, y, x2, mul R (rsh R W), W, rfl, hY, Y2.same s78, _, rfl, iteNo nM ⟨⟨_, _, rfl⟩, s3.trans (s4.trans (s5.trans (s6.trans s78)))⟩⟩
      · rintro σ H3 ⟨⟨v12, v13, rfl⟩, s3⟩
        have s03 := s2.trans s3
        refine ⟨_, rfl, _, rfl, x1, l1, ls1, R, rfl, T1.same s03, s03 _ _ q1, RowsL.same s03 r1, fun H4 s4 => ⟨_, rfl, iteT ?_⟩⟩
        have s04 := s03.trans s4
        exact ⟨_, rfl, _, rfl, x2, lw, lsw, W, rfl, T2.same s04, s04 _ _ q2, RowsL.same s04 r2, fun H5 _ => k _⟩
end
end Toy
namespace Toy
open PySem PySem.Spec PyProof.Rows L2
/-! ### What the top has written, the head -/
theorem all_mk {l : PySem.W.OpenLaw} {w : World} {K : PySem.W.Frag} {h : Heap} {mg : Str → Option Value} {fa C : Addr} {tM : Tok} (X : K.In h) (G : h.Ns mainGlobals mg) (hfa : mg "law" = some (.ref fa))
    {f1 : Addr} {od1 an1 : Option Addr} {sl1 : Array (Option Value)} {oc1 kV1 dc1 pm1 cd1 ct1 : Value}
    {f2 : Addr} {od2 an2 : Option Addr} {sl2 : Array (Option Value)} {oc2 kV2 dc2 pm2 cd2 ct2 : Value}
    {f3 : Addr} {od3 an3 : Option Addr} {sl3 : Array (Option Value)} {oc3 kV3 dc3 pm3 cd3 ct3 : Value}
    {f4 : Addr} {od4 an4 : Option Addr} {sl4 : Array (Option Value)} {oc4 kV4 dc4 pm4 cd4 ct4 : Value}
    {f5 : Addr} {od5 an5 : Option Addr} {sl5 : Array (Option Value)} {oc5 kV5 dc5 pm5 cd5 ct5 : Value}
    {f6 : Addr} {od6 an6 : Option Addr} {sl6 : Array (Option Value)} {oc6 kV6 dc6 pm6 cd6 ct6 : Value}
    {f7 : Addr} {od7 an7 : Option Addr} {sl7 : Array (Option Value)} {oc7 kV7 dc7 pm7 cd7 ct7 : Value}
    {f8 : Addr} {od8 an8 : Option Addr} {sl8 : Array (Option Value)} {oc8 kV8 dc8 pm8 cd8 ct8 : Value}
    {f9 : Addr} {od9 an9 : Option Addr} {sl9 : Array (Option Value)} {oc9 kV9 dc9 pm9 cd9 ct9 : Value}
    {f10 : Addr} {od10 an10 : Option Addr} {sl10 : Array (Option Value)} {oc10 kV10 dc10 pm10 cd10 ct10 : Value}
    {f11 : Addr} {od11 an11 : Option Addr} {sl11 : Array (Option Value)} {oc11 kV11 dc11 pm11 cd11 ct11 : Value}
    {f12 : Addr} {od12 an12 : Option Addr} {sl12 : Array (Option Value)} {oc12 kV12 dc12 pm12 cd12 ct12 : Value}
    {f13 : Addr} {od13 an13 : Option Addr} {sl13 : Array (Option Value)} {oc13 kV13 dc13 pm13 cd13 ct13 : Value}
    {f14 : Addr} {od14 an14 : Option Addr} {sl14 : Array (Option Value)} {oc14 kV14 dc14 pm14 cd14 ct14 : Value}
    {f15 : Addr} {od15 an15 : Option Addr} {sl15 : Array (Option Value)} {oc15 kV15 dc15 pm15 cd15 ct15 : Value}
    {f16 : Addr} {od16 an16 : Option Addr} {sl16 : Array (Option Value)} {oc16 kV16 dc16 pm16 cd16 ct16 : Value}
    {f17 : Addr} {od17 an17 : Option Addr} {sl17 : Array (Option Value)} {oc17 kV17 dc17 pm17 cd17 ct17 : Value}
    {f18 : Addr} {od18 an18 : Option Addr} {sl18 : Array (Option Value)} {oc18 kV18 dc18 pm18 cd18 ct18 : Value}
    {f19 : Addr} {od19 an19 : Option Addr} {sl19 : Array (Option Value)} {oc19 kV19 dc19 pm19 cd19 ct19 : Value}
    {f20 : Addr} {od20 an20 : Option Addr} {sl20 : Array (Option Value)} {oc20 kV20 dc20 pm20 cd20 ct20 : Value}
    {f21 : Addr} {od21 an21 : Option Addr} {sl21 : Array (Option Value)} {oc21 kV21 dc21 pm21 cd21 ct21 : Value}
    {f22 : Addr} {od22 an22 : Option Addr} {sl22 : Array (Option Value)} {oc22 kV22 dc22 pm22 cd22 ct22 : Value}
    {f23 : Addr} {od23 an23 : Option Addr} {sl23 : Array (Option Value)} {oc23 kV23 dc23 pm23 cd23 ct23 : Value}
    {f24 : Addr} {od24 an24 : Option Addr} {sl24 : Array (Option Value)} {oc24 kV24 dc24 pm24 cd24 ct24 : Value}
    {f25 : Addr} {od25 an25 : Option Addr} {sl25 : Array (Option Value)} {oc25 kV25 dc25 pm25 cd25 ct25 : Value}
    {f26 : Addr} {od26 an26 : Option Addr} {sl26 : Array (Option Value)} {oc26 kV26 dc26 pm26 cd26 ct26 : Value}
    {f27 : Addr} {od27 an27 : Option Addr} {sl27 : Array (Option Value)} {oc27 kV27 dc27 pm27 cd27 ct27 : Value}
    {f28 : Addr} {od28 an28 : Option Addr} {sl28 : Array (Option Value)} {oc28 kV28 dc28 pm28 cd28 ct28 : Value}
    {f29 : Addr} {od29 an29 : Option Addr} {sl29 : Array (Option Value)} {oc29 kV29 dc29 pm29 cd29 ct29 : Value}
    {f30 : Addr} {od30 an30 : Option Addr} {sl30 : Array (Option Value)} {oc30 kV30 dc30 pm30 cd30 ct30 : Value}
    {f31 : Addr} {od31 an31 : Option Addr} {sl31 : Array (Option Value)} {oc31 kV31 dc31 pm31 cd31 ct31 : Value}
    {f32 : Addr} {od32 an32 : Option Addr} {sl32 : Array (Option Value)} {oc32 kV32 dc32 pm32 cd32 ct32 : Value}
    {f33 : Addr} {od33 an33 : Option Addr} {sl33 : Array (Option Value)} {oc33 kV33 dc33 pm33 cd33 ct33 : Value}
    {f34 : Addr} {od34 an34 : Option Addr} {sl34 : Array (Option Value)} {oc34 kV34 dc34 pm34 cd34 ct34 : Value}
    {f35 : Addr} {od35 an35 : Option Addr} {sl35 : Array (Option Value)} {oc35 kV35 dc35 pm35 cd35 ct35 : Value}
    (aC : PySem.W.nsIn K mainGlobals "Table" = some (some (.ref C)))
    (a1 : PySem.W.nsIn K mainGlobals "is_word" = some (some (.ref f1)))
    (l1 : K.lookup f1 = some ⟨oc1, od1, .func (PySem.W.fnOf "is_word" "is_word" (defArgs sIsWord) (defBody sIsWord) (defScope sIsWord) .none kV1 dc1 pm1 an1 cd1 ct1), sl1⟩)
    (c1 : PySem.W.codeIn K cd1 "is_word" = true)
    (k1 : PySem.W.keepIn K (.ref f1) = true)
    (a2 : PySem.W.nsIn K mainGlobals "all_words" = some (some (.ref f2)))
    (l2 : K.lookup f2 = some ⟨oc2, od2, .func (PySem.W.fnOf "all_words" "all_words" (defArgs sAllWords) (defBody sAllWords) (defScope sAllWords) .none kV2 dc2 pm2 an2 cd2 ct2), sl2⟩)
    (c2 : PySem.W.codeIn K cd2 "all_words" = true)
    (k2 : PySem.W.keepIn K (.ref f2) = true)
    (a3 : PySem.W.nsIn K mainGlobals "is_size" = some (some (.ref f3)))
    (l3 : K.lookup f3 = some ⟨oc3, od3, .func (PySem.W.fnOf "is_size" "is_size" (defArgs sIsSize) (defBody sIsSize) (defScope sIsSize) .none kV3 dc3 pm3 an3 cd3 ct3), sl3⟩)
    (c3 : PySem.W.codeIn K cd3 "is_size" = true)
    (k3 : PySem.W.keepIn K (.ref f3) = true)
    (a4 : PySem.W.nsIn K mainGlobals "check_size" = some (some (.ref f4)))
    (l4 : K.lookup f4 = some ⟨oc4, od4, .func (PySem.W.fnOf "check_size" "check_size" (defArgs sCheckSize) (defBody sCheckSize) (defScope sCheckSize) .none kV4 dc4 pm4 an4 cd4 ct4), sl4⟩)
    (c4 : PySem.W.codeIn K cd4 "check_size" = true)
    (k4 : PySem.W.keepIn K (.ref f4) = true)
    (a5 : PySem.W.nsIn K mainGlobals "check_word" = some (some (.ref f5)))
    (l5 : K.lookup f5 = some ⟨oc5, od5, .func (PySem.W.fnOf "check_word" "check_word" (defArgs sCheckWord) (defBody sCheckWord) (defScope sCheckWord) .none kV5 dc5 pm5 an5 cd5 ct5), sl5⟩)
    (c5 : PySem.W.codeIn K cd5 "check_word" = true)
    (k5 : PySem.W.keepIn K (.ref f5) = true)
    (a6 : PySem.W.nsIn K mainGlobals "ascending" = some (some (.ref f6)))
    (l6 : K.lookup f6 = some ⟨oc6, od6, .func (PySem.W.fnOf "ascending" "ascending" (defArgs sAsc) (defBody sAsc) (defScope sAsc) .none kV6 dc6 pm6 an6 cd6 ct6), sl6⟩)
    (c6 : PySem.W.codeIn K cd6 "ascending" = true)
    (k6 : PySem.W.keepIn K (.ref f6) = true)
    (a7 : PySem.W.findIn K (.ref C) "__init__" = some (some (.ref f7)))
    (i7 : PySem.W.isFn K (.ref f7) = true)
    (l7 : K.lookup f7 = some ⟨oc7, od7, .func (PySem.W.fnOf "__init__" "Table.__init__" (defArgs sInit) (defBody sInit) (defScope sInit) .none kV7 dc7 pm7 an7 cd7 ct7), sl7⟩)
    (c7 : PySem.W.codeIn K cd7 "Table.__init__" = true)
    (k7 : PySem.W.keepIn K (.ref f7) = true)
    (a8 : PySem.W.findIn K (.ref C) "rows" = some (some (.ref f8)))
    (i8 : PySem.W.isFn K (.ref f8) = true)
    (l8 : K.lookup f8 = some ⟨oc8, od8, .func (PySem.W.fnOf "rows" "Table.rows" (defArgs sRows) (defBody sRows) (defScope sRows) .none kV8 dc8 pm8 an8 cd8 ct8), sl8⟩)
    (c8 : PySem.W.codeIn K cd8 "Table.rows" = true)
    (k8 : PySem.W.keepIn K (.ref f8) = true)
    (a9 : PySem.W.nsIn K mainGlobals "_law_box" = some (some (.ref f9)))
    (l9 : K.lookup f9 = some ⟨oc9, od9, .func (PySem.W.fnOf "_law_box" "_law_box" (defArgs sBox) (defBody sBox) (defScope sBox) .none kV9 dc9 pm9 an9 cd9 ct9), sl9⟩)
    (c9 : PySem.W.codeIn K cd9 "_law_box" = true)
    (k9 : PySem.W.keepIn K (.ref f9) = true)
    (a10 : PySem.W.nsIn K mainGlobals "_law_take" = some (some (.ref f10)))
    (l10 : K.lookup f10 = some ⟨oc10, od10, .func (PySem.W.fnOf "_law_take" "_law_take" (defArgs sTake) (defBody sTake) (defScope sTake) .none kV10 dc10 pm10 an10 cd10 ct10), sl10⟩)
    (c10 : PySem.W.codeIn K cd10 "_law_take" = true)
    (k10 : PySem.W.keepIn K (.ref f10) = true)
    (a11 : PySem.W.nsIn K mainGlobals "_law_words" = some (some (.ref f11)))
    (l11 : K.lookup f11 = some ⟨oc11, od11, .func (PySem.W.fnOf "_law_words" "_law_words" (defArgs sWords) (defBody sWords) (defScope sWords) .none kV11 dc11 pm11 an11 cd11 ct11), sl11⟩)
    (c11 : PySem.W.codeIn K cd11 "_law_words" = true)
    (k11 : PySem.W.keepIn K (.ref f11) = true)
    (a12 : PySem.W.nsIn K mainGlobals "_law_rows" = some (some (.ref f12)))
    (l12 : K.lookup f12 = some ⟨oc12, od12, .func (PySem.W.fnOf "_law_rows" "_law_rows" (defArgs sRowsL) (defBody sRowsL) (defScope sRowsL) .none kV12 dc12 pm12 an12 cd12 ct12), sl12⟩)
    (c12 : PySem.W.codeIn K cd12 "_law_rows" = true)
    (k12 : PySem.W.keepIn K (.ref f12) = true)
    (a13 : PySem.W.nsIn K mainGlobals "_law_is_int" = some (some (.ref f13)))
    (l13 : K.lookup f13 = some ⟨oc13, od13, .func (PySem.W.fnOf "_law_is_int" "_law_is_int" (defArgs sIsInt) (defBody sIsInt) (defScope sIsInt) .none kV13 dc13 pm13 an13 cd13 ct13), sl13⟩)
    (c13 : PySem.W.codeIn K cd13 "_law_is_int" = true)
    (k13 : PySem.W.keepIn K (.ref f13) = true)
    (a14 : PySem.W.nsIn K mainGlobals "_law_is_words" = some (some (.ref f14)))
    (l14 : K.lookup f14 = some ⟨oc14, od14, .func (PySem.W.fnOf "_law_is_words" "_law_is_words" (defArgs sIsWords) (defBody sIsWords) (defScope sIsWords) .none kV14 dc14 pm14 an14 cd14 ct14), sl14⟩)
    (c14 : PySem.W.codeIn K cd14 "_law_is_words" = true)
    (k14 : PySem.W.keepIn K (.ref f14) = true)
    (a15 : PySem.W.nsIn K mainGlobals "_law_same" = some (some (.ref f15)))
    (l15 : K.lookup f15 = some ⟨oc15, od15, .func (PySem.W.fnOf "_law_same" "_law_same" (defArgs sSame) (defBody sSame) (defScope sSame) .none kV15 dc15 pm15 an15 cd15 ct15), sl15⟩)
    (c15 : PySem.W.codeIn K cd15 "_law_same" = true)
    (k15 : PySem.W.keepIn K (.ref f15) = true)
    (a16 : PySem.W.findIn K (.ref C) "_out_of_some" = some (some (.ref f16)))
    (i16 : PySem.W.isFn K (.ref f16) = true)
    (l16 : K.lookup f16 = some ⟨oc16, od16, .func (PySem.W.fnOf "_out_of_some" "Table._out_of_some" (defArgs sOutSome) (defBody sOutSome) (defScope sOutSome) .none kV16 dc16 pm16 an16 cd16 ct16), sl16⟩)
    (c16 : PySem.W.codeIn K cd16 "Table._out_of_some" = true)
    (k16 : PySem.W.keepIn K (.ref f16) = true)
    (a17 : PySem.W.nsIn K mainGlobals "check_same_size" = some (some (.ref f17)))
    (l17 : K.lookup f17 = some ⟨oc17, od17, .func (PySem.W.fnOf "check_same_size" "check_same_size" (defArgs sChSame) (defBody sChSame) (defScope sChSame) .none kV17 dc17 pm17 an17 cd17 ct17), sl17⟩)
    (c17 : PySem.W.codeIn K cd17 "check_same_size" = true)
    (k17 : PySem.W.keepIn K (.ref f17) = true)
    (a18 : PySem.W.findIn K (.ref C) "__invert__" = some (some (.ref f18)))
    (i18 : PySem.W.isFn K (.ref f18) = true)
    (l18 : K.lookup f18 = some ⟨oc18, od18, .func (PySem.W.fnOf "__invert__" "Table.__invert__" (defArgs sInvert) (defBody sInvert) (defScope sInvert) .none kV18 dc18 pm18 an18 cd18 ct18), sl18⟩)
    (c18 : PySem.W.codeIn K cd18 "Table.__invert__" = true)
    (k18 : PySem.W.keepIn K (.ref f18) = true)
    (a19 : PySem.W.findIn K (.ref C) "_out_of_each" = some (some (.ref f19)))
    (i19 : PySem.W.isFn K (.ref f19) = true)
    (l19 : K.lookup f19 = some ⟨oc19, od19, .func (PySem.W.fnOf "_out_of_each" "Table._out_of_each" (defArgs sEach) (defBody sEach) (defScope sEach) .none kV19 dc19 pm19 an19 cd19 ct19), sl19⟩)
    (c19 : PySem.W.codeIn K cd19 "Table._out_of_each" = true)
    (k19 : PySem.W.keepIn K (.ref f19) = true)
    (a20 : PySem.W.findIn K (.ref C) "__rshift__" = some (some (.ref f20)))
    (i20 : PySem.W.isFn K (.ref f20) = true)
    (l20 : K.lookup f20 = some ⟨oc20, od20, .func (PySem.W.fnOf "__rshift__" "Table.__rshift__" (defArgs sRsh) (defBody sRsh) (defScope sRsh) .none kV20 dc20 pm20 an20 cd20 ct20), sl20⟩)
    (c20 : PySem.W.codeIn K cd20 "Table.__rshift__" = true)
    (k20 : PySem.W.keepIn K (.ref f20) = true)
    (a21 : PySem.W.findIn K (.ref C) "__mul__" = some (some (.ref f21)))
    (i21 : PySem.W.isFn K (.ref f21) = true)
    (l21 : K.lookup f21 = some ⟨oc21, od21, .func (PySem.W.fnOf "__mul__" "Table.__mul__" (defArgs sMul) (defBody sMul) (defScope sMul) .none kV21 dc21 pm21 an21 cd21 ct21), sl21⟩)
    (c21 : PySem.W.codeIn K cd21 "Table.__mul__" = true)
    (k21 : PySem.W.keepIn K (.ref f21) = true)
    (a22 : PySem.W.nsIn K mainGlobals "_law_join" = some (some (.ref f22)))
    (l22 : K.lookup f22 = some ⟨oc22, od22, .func (PySem.W.fnOf "_law_join" "_law_join" (defArgs sJoin) (defBody sJoin) (defScope sJoin) .none kV22 dc22 pm22 an22 cd22 ct22), sl22⟩)
    (c22 : PySem.W.codeIn K cd22 "_law_join" = true)
    (k22 : PySem.W.keepIn K (.ref f22) = true)
    (a23 : PySem.W.findIn K (.ref C) "__eq__" = some (some (.ref f23)))
    (i23 : PySem.W.isFn K (.ref f23) = true)
    (l23 : K.lookup f23 = some ⟨oc23, od23, .func (PySem.W.fnOf "__eq__" "Table.__eq__" (defArgs sEqT) (defBody sEqT) (defScope sEqT) .none kV23 dc23 pm23 an23 cd23 ct23), sl23⟩)
    (c23 : PySem.W.codeIn K cd23 "Table.__eq__" = true)
    (k23 : PySem.W.keepIn K (.ref f23) = true)
    (a24 : PySem.W.findIn K (.ref C) "__iter__" = some (some (.ref f24)))
    (i24 : PySem.W.isFn K (.ref f24) = true)
    (l24 : K.lookup f24 = some ⟨oc24, od24, .func (PySem.W.fnOf "__iter__" "Table.__iter__" (defArgs sIter) (defBody sIter) (defScope sIter) .none kV24 dc24 pm24 an24 cd24 ct24), sl24⟩)
    (c24 : PySem.W.codeIn K cd24 "Table.__iter__" = true)
    (k24 : PySem.W.keepIn K (.ref f24) = true)
    (a25 : PySem.W.findIn K (.ref C) "__contains__" = some (some (.ref f25)))
    (i25 : PySem.W.isFn K (.ref f25) = true)
    (l25 : K.lookup f25 = some ⟨oc25, od25, .func (PySem.W.fnOf "__contains__" "Table.__contains__" (defArgs sContains) (defBody sContains) (defScope sContains) .none kV25 dc25 pm25 an25 cd25 ct25), sl25⟩)
    (c25 : PySem.W.codeIn K cd25 "Table.__contains__" = true)
    (k25 : PySem.W.keepIn K (.ref f25) = true)
    (a26 : PySem.W.findIn K (.ref C) "__getitem__" = some (some (.ref f26)))
    (i26 : PySem.W.isFn K (.ref f26) = true)
    (n26 : PySem.W.fnIn K f26 = true)
    (l26 : K.lookup f26 = some ⟨oc26, od26, .func (PySem.W.fnOf "__getitem__" "Table.__getitem__" (defArgs sGetitem) (defBody sGetitem) (defScope sGetitem) .none kV26 dc26 pm26 an26 cd26 ct26), sl26⟩)
    (c26 : PySem.W.codeIn K cd26 "Table.__getitem__" = true)
    (k26 : PySem.W.keepIn K (.ref f26) = true)
    (a27 : PySem.W.nsIn K mainGlobals "further" = some (some (.ref f27)))
    (l27 : K.lookup f27 = some ⟨oc27, od27, .func (PySem.W.fnOf "further" "further" (defArgs sFur) (defBody sFur) (defScope sFur) .none kV27 dc27 pm27 an27 cd27 ct27), sl27⟩)
    (c27 : PySem.W.codeIn K cd27 "further" = true)
    (k27 : PySem.W.keepIn K (.ref f27) = true)
    (a28 : PySem.W.nsIn K mainGlobals "lost_pair" = some (some (.ref f28)))
    (l28 : K.lookup f28 = some ⟨oc28, od28, .func (PySem.W.fnOf "lost_pair" "lost_pair" (defArgs sLost) (defBody sLost) (defScope sLost) .none kV28 dc28 pm28 an28 cd28 ct28), sl28⟩)
    (c28 : PySem.W.codeIn K cd28 "lost_pair" = true)
    (k28 : PySem.W.keepIn K (.ref f28) = true)
    (a29 : PySem.W.nsIn K mainGlobals "first_missing" = some (some (.ref f29)))
    (l29 : K.lookup f29 = some ⟨oc29, od29, .func (PySem.W.fnOf "first_missing" "first_missing" (defArgs sMissing) (defBody sMissing) (defScope sMissing) .none kV29 dc29 pm29 an29 cd29 ct29), sl29⟩)
    (c29 : PySem.W.codeIn K cd29 "first_missing" = true)
    (k29 : PySem.W.keepIn K (.ref f29) = true)
    (a30 : PySem.W.nsIn K mainGlobals "_other_sender" = some (some (.ref f30)))
    (l30 : K.lookup f30 = some ⟨oc30, od30, .func (PySem.W.fnOf "_other_sender" "_other_sender" (defArgs sOther) (defBody sOther) (defScope sOther) .none kV30 dc30 pm30 an30 cd30 ct30), sl30⟩)
    (c30 : PySem.W.codeIn K cd30 "_other_sender" = true)
    (k30 : PySem.W.keepIn K (.ref f30) = true)
    (a31 : PySem.W.nsIn K mainGlobals "lost_holds" = some (some (.ref f31)))
    (l31 : K.lookup f31 = some ⟨oc31, od31, .func (PySem.W.fnOf "lost_holds" "lost_holds" (defArgs sHolds) (defBody sHolds) (defScope sHolds) .none kV31 dc31 pm31 an31 cd31 ct31), sl31⟩)
    (c31 : PySem.W.codeIn K cd31 "lost_holds" = true)
    (k31 : PySem.W.keepIn K (.ref f31) = true)
    (a32 : PySem.W.nsIn K mainGlobals "_law_blocks" = some (some (.ref f32)))
    (l32 : K.lookup f32 = some ⟨oc32, od32, .func (PySem.W.fnOf "_law_blocks" "_law_blocks" (defArgs sBlocks) (defBody sBlocks) (defScope sBlocks) .none kV32 dc32 pm32 an32 cd32 ct32), sl32⟩)
    (c32 : PySem.W.codeIn K cd32 "_law_blocks" = true)
    (k32 : PySem.W.keepIn K (.ref f32) = true)
    (a33 : PySem.W.nsIn K mainGlobals "_law_paper" = some (some (.ref f33)))
    (l33 : K.lookup f33 = some ⟨oc33, od33, .func (PySem.W.fnOf "_law_paper" "_law_paper" (defArgs sPaper) (defBody sPaper) (defScope sPaper) .none kV33 dc33 pm33 an33 cd33 ct33), sl33⟩)
    (c33 : PySem.W.codeIn K cd33 "_law_paper" = true)
    (k33 : PySem.W.keepIn K (.ref f33) = true)
    (a34 : PySem.W.nsIn K mainGlobals "_law_is_pairs" = some (some (.ref f34)))
    (l34 : K.lookup f34 = some ⟨oc34, od34, .func (PySem.W.fnOf "_law_is_pairs" "_law_is_pairs" (defArgs sIsPairs) (defBody sIsPairs) (defScope sIsPairs) .none kV34 dc34 pm34 an34 cd34 ct34), sl34⟩)
    (c34 : PySem.W.codeIn K cd34 "_law_is_pairs" = true)
    (k34 : PySem.W.keepIn K (.ref f34) = true)
    (a35 : PySem.W.nsIn K mainGlobals "law" = some (some (.ref f35)))
    (l35 : K.lookup f35 = some ⟨oc35, od35, .func (PySem.W.fnOf "law" "law" (defArgs sLaw) (defBody sLaw) (defScope sLaw) .none kV35 dc35 pm35 an35 cd35 ct35), sl35⟩)
    (c35 : PySem.W.codeIn K cd35 "law" = true)
    (k35 : PySem.W.keepIn K (.ref f35) = true)
    (pg : PySem.W.plainGet K C Str.empty = true)
    (hd : PySem.W.hasDictIn K C = true)
    (po : PySem.W.plainOver K C = true)
    (sa : PySem.W.findIn K (.ref C) "__setattr__" = some (some (.builtin "object.__setattr__")))
    (mk : PySem.W.makesIn K C = true)
    (kc : PySem.W.keepIn K (.ref C) = true)
    (nS : PySem.W.findIn K (.ref C) "size" = some none)
    (nR : PySem.W.findIn K (.ref C) "_rows" = some none)
    (nP : PySem.W.findIn K (.ref C) "_pairs" = some none)
    (rd : PySem.W.readsIn K C (.type "type") = true)
    (rg : PySem.W.specialIn K (.ref C) "__getattribute__" = some (some (.builtin "type.__getattribute__")))
    (ms : PySem.W.findCls K (.ref C) (.type "type") "MOST" = some (.val (.int 6 tM)))
    (ia : PySem.W.findIn K (.ref C) "__class__" = some (some (.builtin "object.__class__")))
    (ic : PySem.W.specialIn K (.builtin "object.__class__") "__get__" = some (some (.builtin "getset_descriptor.__get__")))
    (it : PySem.W.takesIn K (.builtin "object.__class__") = some true)
    (im : PySem.W.mroIn K C (.type "object") = some true)
    (sf : PySem.W.selfFirst K C = true)
    (nf : PySem.W.notFirst K C (.ref C) = true)
    (z_len : PySem.W.nsIn K mainGlobals "len" = some none)
    (z_range : PySem.W.nsIn K mainGlobals "range" = some none)
    (z_all : PySem.W.nsIn K mainGlobals "all" = some none)
    (z_list : PySem.W.nsIn K mainGlobals "list" = some none)
    (z_tuple : PySem.W.nsIn K mainGlobals "tuple" = some none)
    (z_enumerate : PySem.W.nsIn K mainGlobals "enumerate" = some none)
    (z_isinstance : PySem.W.nsIn K mainGlobals "isinstance" = some none)
    (z_int : PySem.W.nsIn K mainGlobals "int" = some none)
    (z_bool : PySem.W.nsIn K mainGlobals "bool" = some none)
    (z_str : PySem.W.nsIn K mainGlobals "str" = some none)
    (z_abs : PySem.W.nsIn K mainGlobals "abs" = some none)
    (z_iter : PySem.W.nsIn K mainGlobals "iter" = some none)
    : ∃ fd : FuncData, (∀ (s : Shared) (v : Value), BindsTo s fd ⟨[v], []⟩ [("_law_script", v)]) ∧ ∀ base : Heap, K.In base → base.Ns mainGlobals mg → FnOk l.prog w K mg base CX0 8 fa fd ["_law_script"] (spLaw K) := by
  have e := hfa.symm.trans (PySem.W.mg_of X G a35)
  cases e
  have F1 := fun_mk (st := sIsWord) l1 c1 k1
  have b1 := F1.binds (ps := ["word", "size"]) fun _ _ _ _ _ _ us hl => match us, hl with | [_, _], _ => rfl
  have F2 := fun_mk (st := sAllWords) l2 c2 k2
  have b2 := F2.binds (ps := ["words", "size"]) fun _ _ _ _ _ _ us hl => match us, hl with | [_, _], _ => rfl
  have F3 := fun_mk (st := sIsSize) l3 c3 k3
  have b3 := F3.binds (ps := ["size"]) fun _ _ _ _ _ _ us hl => match us, hl with | [_], _ => rfl
  have F4 := fun_mk (st := sCheckSize) l4 c4 k4
  have b4 := F4.binds (ps := ["size"]) fun _ _ _ _ _ _ us hl => match us, hl with | [_], _ => rfl
  have F5 := fun_mk (st := sCheckWord) l5 c5 k5
  have b5 := F5.binds (ps := ["word", "size"]) fun _ _ _ _ _ _ us hl => match us, hl with | [_, _], _ => rfl
  have F6 := fun_mk (st := sAsc) l6 c6 k6
  have b6 := F6.binds (ps := ["words", "size"]) fun _ _ _ _ _ _ us hl => match us, hl with | [_, _], _ => rfl
  have F7 := fun_mk (st := sInit) l7 c7 k7
  have b7 := F7.binds (ps := ["self", "rows"]) fun _ _ _ _ _ _ us hl => match us, hl with | [_, _], _ => rfl
  have F8 := fun_mk (st := sRows) l8 c8 k8
  have b8 := F8.binds (ps := ["self"]) fun _ _ _ _ _ _ us hl => match us, hl with | [_], _ => rfl
  have F9 := fun_mk (st := sBox) l9 c9 k9
  have b9 := F9.binds (ps := ["_law_script"]) fun _ _ _ _ _ _ us hl => match us, hl with | [_], _ => rfl
  have F10 := fun_mk (st := sTake) l10 c10 k10
  have b10 := F10.binds (ps := ["_law_box_here", "_law_many"]) fun _ _ _ _ _ _ us hl => match us, hl with | [_, _], _ => rfl
  have F11 := fun_mk (st := sWords) l11 c11 k11
  have b11 := F11.binds (ps := ["_law_box_here", "_law_n", "_law_least"]) fun _ _ _ _ _ _ us hl => match us, hl with | [_, _, _], _ => rfl
  have F12 := fun_mk (st := sRowsL) l12 c12 k12
  have b12 := F12.binds (ps := ["_law_box_here", "_law_n", "_law_least"]) fun _ _ _ _ _ _ us hl => match us, hl with | [_, _, _], _ => rfl
  have F13 := fun_mk (st := sIsInt) l13 c13 k13
  have b13 := F13.binds (ps := ["_law_value"]) fun _ _ _ _ _ _ us hl => match us, hl with | [_], _ => rfl
  have F14 := fun_mk (st := sIsWords) l14 c14 k14
  have b14 := F14.binds (ps := ["_law_value"]) fun _ _ _ _ _ _ us hl => match us, hl with | [_], _ => rfl
  have F15 := fun_mk (st := sSame) l15 c15 k15
  have b15 := F15.binds (ps := ["_law_table", "_law_rows_here"]) fun _ _ _ _ _ _ us hl => match us, hl with | [_, _], _ => rfl
  have F16 := fun_mk (st := sOutSome) l16 c16 k16
  have b16 := F16.binds (ps := ["self", "words"]) fun _ _ _ _ _ _ us hl => match us, hl with | [_, _], _ => rfl
  have F17 := fun_mk (st := sChSame) l17 c17 k17
  have b17 := F17.binds (ps := ["first", "second"]) fun _ _ _ _ _ _ us hl => match us, hl with | [_, _], _ => rfl
  have F18 := fun_mk (st := sInvert) l18 c18 k18
  have b18 := F18.binds (ps := ["self"]) fun _ _ _ _ _ _ us hl => match us, hl with | [_], _ => rfl
  have F19 := fun_mk (st := sEach) l19 c19 k19
  have b19 := F19.binds (ps := ["self", "words"]) fun _ _ _ _ _ _ us hl => match us, hl with | [_, _], _ => rfl
  have F20 := fun_mk (st := sRsh) l20 c20 k20
  have b20 := F20.binds (ps := ["self", "other"]) fun _ _ _ _ _ _ us hl => match us, hl with | [_, _], _ => rfl
  have F21 := fun_mk (st := sMul) l21 c21 k21
  have b21 := F21.binds (ps := ["self", "other"]) fun _ _ _ _ _ _ us hl => match us, hl with | [_, _], _ => rfl
  have F22 := fun_mk (st := sJoin) l22 c22 k22
  have b22 := F22.binds (ps := ["_law_first", "_law_last"]) fun _ _ _ _ _ _ us hl => match us, hl with | [_, _], _ => rfl
  have F23 := fun_mk (st := sEqT) l23 c23 k23
  have b23 := F23.binds (ps := ["self", "other"]) fun _ _ _ _ _ _ us hl => match us, hl with | [_, _], _ => rfl
  have F24 := fun_mk (st := sIter) l24 c24 k24
  have b24 := F24.binds (ps := ["self"]) fun _ _ _ _ _ _ us hl => match us, hl with | [_], _ => rfl
  have F25 := fun_mk (st := sContains) l25 c25 k25
  have b25 := F25.binds (ps := ["self", "pair"]) fun _ _ _ _ _ _ us hl => match us, hl with | [_, _], _ => rfl
  have F26 := fun_mk (st := sGetitem) l26 c26 k26
  have b26 := F26.binds (ps := ["self", "word"]) fun _ _ _ _ _ _ us hl => match us, hl with | [_, _], _ => rfl
  have F27 := fun_mk (st := sFur) l27 c27 k27
  have b27 := F27.binds (ps := ["first", "whole"]) fun _ _ _ _ _ _ us hl => match us, hl with | [_, _], _ => rfl
  have F28 := fun_mk (st := sLost) l28 c28 k28
  have b28 := F28.binds (ps := ["first", "whole"]) fun _ _ _ _ _ _ us hl => match us, hl with | [_, _], _ => rfl
  have F29 := fun_mk (st := sMissing) l29 c29 k29
  have b29 := F29.binds (ps := ["whole", "found"]) fun _ _ _ _ _ _ us hl => match us, hl with | [_, _], _ => rfl
  have F30 := fun_mk (st := sOther) l30 c30 k30
  have b30 := F30.binds (ps := ["first", "whole", "mid", "out"]) fun _ _ _ _ _ _ us hl => match us, hl with | [_, _, _, _], _ => rfl
  have F31 := fun_mk (st := sHolds) l31 c31 k31
  have b31 := F31.binds (ps := ["first", "whole", "paper"]) fun _ _ _ _ _ _ us hl => match us, hl with | [_, _, _], _ => rfl
  have F32 := fun_mk (st := sBlocks) l32 c32 k32
  have b32 := F32.binds (ps := ["_law_first", "_law_whole", "_law_told", "_law_out"]) fun _ _ _ _ _ _ us hl => match us, hl with | [_, _, _, _], _ => rfl
  have F33 := fun_mk (st := sPaper) l33 c33 k33
  have b33 := F33.binds (ps := ["_law_first", "_law_whole"]) fun _ _ _ _ _ _ us hl => match us, hl with | [_, _], _ => rfl
  have F34 := fun_mk (st := sIsPairs) l34 c34 k34
  have b34 := F34.binds (ps := ["_law_value", "_law_due"]) fun _ _ _ _ _ _ us hl => match us, hl with | [_, _], _ => rfl
  have F35 := fun_mk (st := sLaw) l35 c35 k35
  have B : Bt mg := ⟨(PySem.W.mg_none_of X G z_len), (PySem.W.mg_none_of X G z_range), (PySem.W.mg_none_of X G z_all), (PySem.W.mg_none_of X G z_list), (PySem.W.mg_none_of X G z_tuple), (PySem.W.mg_none_of X G z_enumerate), (PySem.W.mg_none_of X G z_isinstance), (PySem.W.mg_none_of X G z_int), (PySem.W.mg_none_of X G z_bool), (PySem.W.mg_none_of X G z_str), (PySem.W.mg_none_of X G z_abs)⟩
  have T : CT K mg C := ⟨PySem.W.mg_of X G aC, ⟨pg, hd, po, sa⟩, ⟨rd, rg⟩, ⟨_, ms⟩, nS, nR, nP⟩
  have I : C8.InsC K C := ⟨⟨pg, hd, po, sa⟩, ia, ic, it, im, by unfold PySem.W.kitOne; rw [if_pos (by simp)]⟩
  have L : Lt K mg := ⟨B, ⟨_, _, F10, PySem.W.mg_of X G a10, b10⟩, ⟨_, _, F11, PySem.W.mg_of X G a11, b11⟩⟩
  have Gg : Gs K mg C := ⟨B, T, ⟨_, _, F1, PySem.W.mg_of X G a1, b1⟩, ⟨_, _, F2, PySem.W.mg_of X G a2, b2⟩, ⟨_, _, F3, PySem.W.mg_of X G a3, b3⟩, ⟨_, _, F4, PySem.W.mg_of X G a4, b4⟩, ⟨_, _, F5, PySem.W.mg_of X G a5, b5⟩, ⟨_, _, F6, PySem.W.mg_of X G a6, b6⟩⟩
  have V : Vt K mg C := ⟨Gg, I, ⟨_, _, F13, PySem.W.mg_of X G a13, b13⟩, ⟨_, _, F14, PySem.W.mg_of X G a14, b14⟩, ⟨_, _, F8, ⟨a8, i8, k8⟩, b8⟩⟩
  have O : Op32 K mg C := ⟨I, nf, sf, (PySem.W.mg_none_of X G z_iter), ⟨_, _, F7, ⟨mk, a7, i7, kc⟩, b7⟩, ⟨_, _, F17, PySem.W.mg_of X G a17, b17⟩, ⟨_, _, F16, ⟨a16, i16, k16⟩, b16⟩, ⟨_, _, F21, ⟨a21, i21⟩, b21⟩, ⟨_, _, F18, ⟨a18, i18⟩, b18⟩, ⟨_, _, F19, ⟨a19, i19, k19⟩, b19⟩, ⟨_, _, F20, ⟨a20, i20⟩, b20⟩, ⟨_, _, F23, ⟨a23, i23⟩, b23⟩, ⟨_, _, F24, ⟨a24, i24⟩, b24⟩, ⟨_, _, F25, ⟨a25, i25⟩, b25⟩, ⟨_, _, F26, ⟨a26, n26, i26⟩, b26⟩⟩
  have A : Al K mg C := ⟨L, Gg, V, O, ⟨_, _, F27, PySem.W.mg_of X G a27, b27⟩, ⟨_, _, F28, PySem.W.mg_of X G a28, b28⟩, ⟨_, _, F29, PySem.W.mg_of X G a29, b29⟩, ⟨_, _, F30, PySem.W.mg_of X G a30, b30⟩, ⟨_, _, F31, PySem.W.mg_of X G a31, b31⟩, ⟨_, _, F9, PySem.W.mg_of X G a9, b9⟩, ⟨_, _, F12, PySem.W.mg_of X G a12, b12⟩, ⟨_, _, F22, PySem.W.mg_of X G a22, b22⟩, ⟨_, _, F32, PySem.W.mg_of X G a32, b32⟩, ⟨_, _, F33, PySem.W.mg_of X G a33, b33⟩, ⟨_, _, F13, PySem.W.mg_of X G a13, b13⟩, ⟨_, _, F34, PySem.W.mg_of X G a34, b34⟩, ⟨_, _, F15, PySem.W.mg_of X G a15, b15⟩⟩
  exact ⟨PySem.W.fnOf "law" "law" (defArgs sLaw) (defBody sLaw) (defScope sLaw) .none kV35 dc35 pm35 an35 cd35 ct35, fun s v => .of_eq rfl, fun base _ _ =>
    ok_law F35 A⟩
def hdB0 (K : PySem.W.Frag) : Bool := He.eqO (PySem.W.nsIn K mainGlobals "Table") (some (some (.ref (He.ga K "Table")))) && (He.eqO (PySem.W.nsIn K mainGlobals "is_word") (some (some (.ref (He.ga K "is_word")))) && (PySem.W.keepIn K (.ref (He.ga K "is_word")) && (He.eqO (PySem.W.nsIn K mainGlobals "all_words") (some (some (.ref (He.ga K "all_words")))) && (PySem.W.keepIn K (.ref (He.ga K "all_words")) && (He.eqO (PySem.W.nsIn K mainGlobals "is_size") (some (some (.ref (He.ga K "is_size")))) && (PySem.W.keepIn K (.ref (He.ga K "is_size")) && (He.eqO (PySem.W.nsIn K mainGlobals "check_size") (some (some (.ref (He.ga K "check_size")))) && (PySem.W.keepIn K (.ref (He.ga K "check_size")) && (He.eqO (PySem.W.nsIn K mainGlobals "check_word") (some (some (.ref (He.ga K "check_word")))) && (PySem.W.keepIn K (.ref (He.ga K "check_word")) && (He.eqO (PySem.W.nsIn K mainGlobals "ascending") (some (some (.ref (He.ga K "ascending")))) && (PySem.W.keepIn K (.ref (He.ga K "ascending")) && (He.eqO (PySem.W.findIn K (.ref (He.ga K "Table")) "__init__") (some (some (.ref (He.ma K (He.ga K "Table") "__init__")))) && (PySem.W.isFn K (.ref (He.ma K (He.ga K "Table") "__init__")) && (PySem.W.keepIn K (.ref (He.ma K (He.ga K "Table") "__init__")) && (He.eqO (PySem.W.findIn K (.ref (He.ga K "Table")) "rows") (some (some (.ref (He.ma K (He.ga K "Table") "rows")))) && (PySem.W.isFn K (.ref (He.ma K (He.ga K "Table") "rows")) && (PySem.W.keepIn K (.ref (He.ma K (He.ga K "Table") "rows")) && (He.eqO (PySem.W.nsIn K mainGlobals "_law_box") (some (some (.ref (He.ga K "_law_box")))))))))))))))))))))))
theorem hdT0 {K : PySem.W.Frag} (h : hdB0 K = true) : (PySem.W.nsIn K mainGlobals "Table" = some (some (.ref (He.ga K "Table")))) ∧ (PySem.W.nsIn K mainGlobals "is_word" = some (some (.ref (He.ga K "is_word")))) ∧ (PySem.W.keepIn K (.ref (He.ga K "is_word")) = true) ∧ (PySem.W.nsIn K mainGlobals "all_words" = some (some (.ref (He.ga K "all_words")))) ∧ (PySem.W.keepIn K (.ref (He.ga K "all_words")) = true) ∧ (PySem.W.nsIn K mainGlobals "is_size" = some (some (.ref (He.ga K "is_size")))) ∧ (PySem.W.keepIn K (.ref (He.ga K "is_size")) = true) ∧ (PySem.W.nsIn K mainGlobals "check_size" = some (some (.ref (He.ga K "check_size")))) ∧ (PySem.W.keepIn K (.ref (He.ga K "check_size")) = true) ∧ (PySem.W.nsIn K mainGlobals "check_word" = some (some (.ref (He.ga K "check_word")))) ∧ (PySem.W.keepIn K (.ref (He.ga K "check_word")) = true) ∧ (PySem.W.nsIn K mainGlobals "ascending" = some (some (.ref (He.ga K "ascending")))) ∧ (PySem.W.keepIn K (.ref (He.ga K "ascending")) = true) ∧ (PySem.W.findIn K (.ref (He.ga K "Table")) "__init__" = some (some (.ref (He.ma K (He.ga K "Table") "__init__")))) ∧ (PySem.W.isFn K (.ref (He.ma K (He.ga K "Table") "__init__")) = true) ∧ (PySem.W.keepIn K (.ref (He.ma K (He.ga K "Table") "__init__")) = true) ∧ (PySem.W.findIn K (.ref (He.ga K "Table")) "rows" = some (some (.ref (He.ma K (He.ga K "Table") "rows")))) ∧ (PySem.W.isFn K (.ref (He.ma K (He.ga K "Table") "rows")) = true) ∧ (PySem.W.keepIn K (.ref (He.ma K (He.ga K "Table") "rows")) = true) ∧ (PySem.W.nsIn K mainGlobals "_law_box" = some (some (.ref (He.ga K "_law_box")))) := by
  unfold hdB0 at h
  obtain ⟨h0, h⟩ := He.ba h
  obtain ⟨h1, h⟩ := He.ba h
  obtain ⟨h2, h⟩ := He.ba h
  obtain ⟨h3, h⟩ := He.ba h
  obtain ⟨h4, h⟩ := He.ba h
  obtain ⟨h5, h⟩ := He.ba h
  obtain ⟨h6, h⟩ := He.ba h
  obtain ⟨h7, h⟩ := He.ba h
  obtain ⟨h8, h⟩ := He.ba h
  obtain ⟨h9, h⟩ := He.ba h
  obtain ⟨h10, h⟩ := He.ba h
  obtain ⟨h11, h⟩ := He.ba h
  obtain ⟨h12, h⟩ := He.ba h
  obtain ⟨h13, h⟩ := He.ba h
  obtain ⟨h14, h⟩ := He.ba h
  obtain ⟨h15, h⟩ := He.ba h
  obtain ⟨h16, h⟩ := He.ba h
  obtain ⟨h17, h⟩ := He.ba h
  obtain ⟨h18, h⟩ := He.ba h
  exact ⟨He.eqO_ok h0, He.eqO_ok h1, h2, He.eqO_ok h3, h4, He.eqO_ok h5, h6, He.eqO_ok h7, h8, He.eqO_ok h9, h10, He.eqO_ok h11, h12, He.eqO_ok h13, h14, h15, He.eqO_ok h16, h17, h18, He.eqO_ok h⟩
def hdB1 (K : PySem.W.Frag) : Bool := PySem.W.keepIn K (.ref (He.ga K "_law_box")) && (He.eqO (PySem.W.nsIn K mainGlobals "_law_take") (some (some (.ref (He.ga K "_law_take")))) && (PySem.W.keepIn K (.ref (He.ga K "_law_take")) && (He.eqO (PySem.W.nsIn K mainGlobals "_law_words") (some (some (.ref (He.ga K "_law_words")))) && (PySem.W.keepIn K (.ref (He.ga K "_law_words")) && (He.eqO (PySem.W.nsIn K mainGlobals "_law_rows") (some (some (.ref (He.ga K "_law_rows")))) && (PySem.W.keepIn K (.ref (He.ga K "_law_rows")) && (He.eqO (PySem.W.nsIn K mainGlobals "_law_is_int") (some (some (.ref (He.ga K "_law_is_int")))) && (PySem.W.keepIn K (.ref (He.ga K "_law_is_int")) && (He.eqO (PySem.W.nsIn K mainGlobals "_law_is_words") (some (some (.ref (He.ga K "_law_is_words")))) && (PySem.W.keepIn K (.ref (He.ga K "_law_is_words")) && (He.eqO (PySem.W.nsIn K mainGlobals "_law_same") (some (some (.ref (He.ga K "_law_same")))) && (PySem.W.keepIn K (.ref (He.ga K "_law_same")) && (He.eqO (PySem.W.findIn K (.ref (He.ga K "Table")) "_out_of_some") (some (some (.ref (He.ma K (He.ga K "Table") "_out_of_some")))) && (PySem.W.isFn K (.ref (He.ma K (He.ga K "Table") "_out_of_some")) && (PySem.W.keepIn K (.ref (He.ma K (He.ga K "Table") "_out_of_some")) && (He.eqO (PySem.W.nsIn K mainGlobals "check_same_size") (some (some (.ref (He.ga K "check_same_size")))) && (PySem.W.keepIn K (.ref (He.ga K "check_same_size")) && (He.eqO (PySem.W.findIn K (.ref (He.ga K "Table")) "__invert__") (some (some (.ref (He.ma K (He.ga K "Table") "__invert__")))) && (PySem.W.isFn K (.ref (He.ma K (He.ga K "Table") "__invert__")))))))))))))))))))))
theorem hdT1 {K : PySem.W.Frag} (h : hdB1 K = true) : (PySem.W.keepIn K (.ref (He.ga K "_law_box")) = true) ∧ (PySem.W.nsIn K mainGlobals "_law_take" = some (some (.ref (He.ga K "_law_take")))) ∧ (PySem.W.keepIn K (.ref (He.ga K "_law_take")) = true) ∧ (PySem.W.nsIn K mainGlobals "_law_words" = some (some (.ref (He.ga K "_law_words")))) ∧ (PySem.W.keepIn K (.ref (He.ga K "_law_words")) = true) ∧ (PySem.W.nsIn K mainGlobals "_law_rows" = some (some (.ref (He.ga K "_law_rows")))) ∧ (PySem.W.keepIn K (.ref (He.ga K "_law_rows")) = true) ∧ (PySem.W.nsIn K mainGlobals "_law_is_int" = some (some (.ref (He.ga K "_law_is_int")))) ∧ (PySem.W.keepIn K (.ref (He.ga K "_law_is_int")) = true) ∧ (PySem.W.nsIn K mainGlobals "_law_is_words" = some (some (.ref (He.ga K "_law_is_words")))) ∧ (PySem.W.keepIn K (.ref (He.ga K "_law_is_words")) = true) ∧ (PySem.W.nsIn K mainGlobals "_law_same" = some (some (.ref (He.ga K "_law_same")))) ∧ (PySem.W.keepIn K (.ref (He.ga K "_law_same")) = true) ∧ (PySem.W.findIn K (.ref (He.ga K "Table")) "_out_of_some" = some (some (.ref (He.ma K (He.ga K "Table") "_out_of_some")))) ∧ (PySem.W.isFn K (.ref (He.ma K (He.ga K "Table") "_out_of_some")) = true) ∧ (PySem.W.keepIn K (.ref (He.ma K (He.ga K "Table") "_out_of_some")) = true) ∧ (PySem.W.nsIn K mainGlobals "check_same_size" = some (some (.ref (He.ga K "check_same_size")))) ∧ (PySem.W.keepIn K (.ref (He.ga K "check_same_size")) = true) ∧ (PySem.W.findIn K (.ref (He.ga K "Table")) "__invert__" = some (some (.ref (He.ma K (He.ga K "Table") "__invert__")))) ∧ (PySem.W.isFn K (.ref (He.ma K (He.ga K "Table") "__invert__")) = true) := by
  unfold hdB1 at h
  obtain ⟨h0, h⟩ := He.ba h
  obtain ⟨h1, h⟩ := He.ba h
  obtain ⟨h2, h⟩ := He.ba h
  obtain ⟨h3, h⟩ := He.ba h
  obtain ⟨h4, h⟩ := He.ba h
  obtain ⟨h5, h⟩ := He.ba h
  obtain ⟨h6, h⟩ := He.ba h
  obtain ⟨h7, h⟩ := He.ba h
  obtain ⟨h8, h⟩ := He.ba h
  obtain ⟨h9, h⟩ := He.ba h
  obtain ⟨h10, h⟩ := He.ba h
  obtain ⟨h11, h⟩ := He.ba h
  obtain ⟨h12, h⟩ := He.ba h
  obtain ⟨h13, h⟩ := He.ba h
  obtain ⟨h14, h⟩ := He.ba h
  obtain ⟨h15, h⟩ := He.ba h
  obtain ⟨h16, h⟩ := He.ba h
  obtain ⟨h17, h⟩ := He.ba h
  obtain ⟨h18, h⟩ := He.ba h
  exact ⟨h0, He.eqO_ok h1, h2, He.eqO_ok h3, h4, He.eqO_ok h5, h6, He.eqO_ok h7, h8, He.eqO_ok h9, h10, He.eqO_ok h11, h12, He.eqO_ok h13, h14, h15, He.eqO_ok h16, h17, He.eqO_ok h18, h⟩
def hdB2 (K : PySem.W.Frag) : Bool := PySem.W.keepIn K (.ref (He.ma K (He.ga K "Table") "__invert__")) && (He.eqO (PySem.W.findIn K (.ref (He.ga K "Table")) "_out_of_each") (some (some (.ref (He.ma K (He.ga K "Table") "_out_of_each")))) && (PySem.W.isFn K (.ref (He.ma K (He.ga K "Table") "_out_of_each")) && (PySem.W.keepIn K (.ref (He.ma K (He.ga K "Table") "_out_of_each")) && (He.eqO (PySem.W.findIn K (.ref (He.ga K "Table")) "__rshift__") (some (some (.ref (He.ma K (He.ga K "Table") "__rshift__")))) && (PySem.W.isFn K (.ref (He.ma K (He.ga K "Table") "__rshift__")) && (PySem.W.keepIn K (.ref (He.ma K (He.ga K "Table") "__rshift__")) && (He.eqO (PySem.W.findIn K (.ref (He.ga K "Table")) "__mul__") (some (some (.ref (He.ma K (He.ga K "Table") "__mul__")))) && (PySem.W.isFn K (.ref (He.ma K (He.ga K "Table") "__mul__")) && (PySem.W.keepIn K (.ref (He.ma K (He.ga K "Table") "__mul__")) && (He.eqO (PySem.W.nsIn K mainGlobals "_law_join") (some (some (.ref (He.ga K "_law_join")))) && (PySem.W.keepIn K (.ref (He.ga K "_law_join")) && (He.eqO (PySem.W.findIn K (.ref (He.ga K "Table")) "__eq__") (some (some (.ref (He.ma K (He.ga K "Table") "__eq__")))) && (PySem.W.isFn K (.ref (He.ma K (He.ga K "Table") "__eq__")) && (PySem.W.keepIn K (.ref (He.ma K (He.ga K "Table") "__eq__")) && (He.eqO (PySem.W.findIn K (.ref (He.ga K "Table")) "__iter__") (some (some (.ref (He.ma K (He.ga K "Table") "__iter__")))) && (PySem.W.isFn K (.ref (He.ma K (He.ga K "Table") "__iter__")) && (PySem.W.keepIn K (.ref (He.ma K (He.ga K "Table") "__iter__")) && (He.eqO (PySem.W.findIn K (.ref (He.ga K "Table")) "__contains__") (some (some (.ref (He.ma K (He.ga K "Table") "__contains__")))) && (PySem.W.isFn K (.ref (He.ma K (He.ga K "Table") "__contains__")))))))))))))))))))))
theorem hdT2 {K : PySem.W.Frag} (h : hdB2 K = true) : (PySem.W.keepIn K (.ref (He.ma K (He.ga K "Table") "__invert__")) = true) ∧ (PySem.W.findIn K (.ref (He.ga K "Table")) "_out_of_each" = some (some (.ref (He.ma K (He.ga K "Table") "_out_of_each")))) ∧ (PySem.W.isFn K (.ref (He.ma K (He.ga K "Table") "_out_of_each")) = true) ∧ (PySem.W.keepIn K (.ref (He.ma K (He.ga K "Table") "_out_of_each")) = true) ∧ (PySem.W.findIn K (.ref (He.ga K "Table")) "__rshift__" = some (some (.ref (He.ma K (He.ga K "Table") "__rshift__")))) ∧ (PySem.W.isFn K (.ref (He.ma K (He.ga K "Table") "__rshift__")) = true) ∧ (PySem.W.keepIn K (.ref (He.ma K (He.ga K "Table") "__rshift__")) = true) ∧ (PySem.W.findIn K (.ref (He.ga K "Table")) "__mul__" = some (some (.ref (He.ma K (He.ga K "Table") "__mul__")))) ∧ (PySem.W.isFn K (.ref (He.ma K (He.ga K "Table") "__mul__")) = true) ∧ (PySem.W.keepIn K (.ref (He.ma K (He.ga K "Table") "__mul__")) = true) ∧ (PySem.W.nsIn K mainGlobals "_law_join" = some (some (.ref (He.ga K "_law_join")))) ∧ (PySem.W.keepIn K (.ref (He.ga K "_law_join")) = true) ∧ (PySem.W.findIn K (.ref (He.ga K "Table")) "__eq__" = some (some (.ref (He.ma K (He.ga K "Table") "__eq__")))) ∧ (PySem.W.isFn K (.ref (He.ma K (He.ga K "Table") "__eq__")) = true) ∧ (PySem.W.keepIn K (.ref (He.ma K (He.ga K "Table") "__eq__")) = true) ∧ (PySem.W.findIn K (.ref (He.ga K "Table")) "__iter__" = some (some (.ref (He.ma K (He.ga K "Table") "__iter__")))) ∧ (PySem.W.isFn K (.ref (He.ma K (He.ga K "Table") "__iter__")) = true) ∧ (PySem.W.keepIn K (.ref (He.ma K (He.ga K "Table") "__iter__")) = true) ∧ (PySem.W.findIn K (.ref (He.ga K "Table")) "__contains__" = some (some (.ref (He.ma K (He.ga K "Table") "__contains__")))) ∧ (PySem.W.isFn K (.ref (He.ma K (He.ga K "Table") "__contains__")) = true) := by
  unfold hdB2 at h
  obtain ⟨h0, h⟩ := He.ba h
  obtain ⟨h1, h⟩ := He.ba h
  obtain ⟨h2, h⟩ := He.ba h
  obtain ⟨h3, h⟩ := He.ba h
  obtain ⟨h4, h⟩ := He.ba h
  obtain ⟨h5, h⟩ := He.ba h
  obtain ⟨h6, h⟩ := He.ba h
  obtain ⟨h7, h⟩ := He.ba h
  obtain ⟨h8, h⟩ := He.ba h
  obtain ⟨h9, h⟩ := He.ba h
  obtain ⟨h10, h⟩ := He.ba h
  obtain ⟨h11, h⟩ := He.ba h
  obtain ⟨h12, h⟩ := He.ba h
  obtain ⟨h13, h⟩ := He.ba h
  obtain ⟨h14, h⟩ := He.ba h
  obtain ⟨h15, h⟩ := He.ba h
  obtain ⟨h16, h⟩ := He.ba h
  obtain ⟨h17, h⟩ := He.ba h
  obtain ⟨h18, h⟩ := He.ba h
  exact ⟨h0, He.eqO_ok h1, h2, h3, He.eqO_ok h4, h5, h6, He.eqO_ok h7, h8, h9, He.eqO_ok h10, h11, He.eqO_ok h12, h13, h14, He.eqO_ok h15, h16, h17, He.eqO_ok h18, h⟩
def hdB3 (K : PySem.W.Frag) : Bool := PySem.W.keepIn K (.ref (He.ma K (He.ga K "Table") "__contains__")) && (He.eqO (PySem.W.findIn K (.ref (He.ga K "Table")) "__getitem__") (some (some (.ref (He.ma K (He.ga K "Table") "__getitem__")))) && (PySem.W.isFn K (.ref (He.ma K (He.ga K "Table") "__getitem__")) && (PySem.W.fnIn K (He.ma K (He.ga K "Table") "__getitem__") && (PySem.W.keepIn K (.ref (He.ma K (He.ga K "Table") "__getitem__")) && (He.eqO (PySem.W.nsIn K mainGlobals "further") (some (some (.ref (He.ga K "further")))) && (PySem.W.keepIn K (.ref (He.ga K "further")) && (He.eqO (PySem.W.nsIn K mainGlobals "lost_pair") (some (some (.ref (He.ga K "lost_pair")))) && (PySem.W.keepIn K (.ref (He.ga K "lost_pair")) && (He.eqO (PySem.W.nsIn K mainGlobals "first_missing") (some (some (.ref (He.ga K "first_missing")))) && (PySem.W.keepIn K (.ref (He.ga K "first_missing")) && (He.eqO (PySem.W.nsIn K mainGlobals "_other_sender") (some (some (.ref (He.ga K "_other_sender")))) && (PySem.W.keepIn K (.ref (He.ga K "_other_sender")) && (He.eqO (PySem.W.nsIn K mainGlobals "lost_holds") (some (some (.ref (He.ga K "lost_holds")))) && (PySem.W.keepIn K (.ref (He.ga K "lost_holds")) && (He.eqO (PySem.W.nsIn K mainGlobals "_law_blocks") (some (some (.ref (He.ga K "_law_blocks")))) && (PySem.W.keepIn K (.ref (He.ga K "_law_blocks")) && (He.eqO (PySem.W.nsIn K mainGlobals "_law_paper") (some (some (.ref (He.ga K "_law_paper")))) && (PySem.W.keepIn K (.ref (He.ga K "_law_paper")) && (He.eqO (PySem.W.nsIn K mainGlobals "_law_is_pairs") (some (some (.ref (He.ga K "_law_is_pairs")))))))))))))))))))))))
theorem hdT3 {K : PySem.W.Frag} (h : hdB3 K = true) : (PySem.W.keepIn K (.ref (He.ma K (He.ga K "Table") "__contains__")) = true) ∧ (PySem.W.findIn K (.ref (He.ga K "Table")) "__getitem__" = some (some (.ref (He.ma K (He.ga K "Table") "__getitem__")))) ∧ (PySem.W.isFn K (.ref (He.ma K (He.ga K "Table") "__getitem__")) = true) ∧ (PySem.W.fnIn K (He.ma K (He.ga K "Table") "__getitem__") = true) ∧ (PySem.W.keepIn K (.ref (He.ma K (He.ga K "Table") "__getitem__")) = true) ∧ (PySem.W.nsIn K mainGlobals "further" = some (some (.ref (He.ga K "further")))) ∧ (PySem.W.keepIn K (.ref (He.ga K "further")) = true) ∧ (PySem.W.nsIn K mainGlobals "lost_pair" = some (some (.ref (He.ga K "lost_pair")))) ∧ (PySem.W.keepIn K (.ref (He.ga K "lost_pair")) = true) ∧ (PySem.W.nsIn K mainGlobals "first_missing" = some (some (.ref (He.ga K "first_missing")))) ∧ (PySem.W.keepIn K (.ref (He.ga K "first_missing")) = true) ∧ (PySem.W.nsIn K mainGlobals "_other_sender" = some (some (.ref (He.ga K "_other_sender")))) ∧ (PySem.W.keepIn K (.ref (He.ga K "_other_sender")) = true) ∧ (PySem.W.nsIn K mainGlobals "lost_holds" = some (some (.ref (He.ga K "lost_holds")))) ∧ (PySem.W.keepIn K (.ref (He.ga K "lost_holds")) = true) ∧ (PySem.W.nsIn K mainGlobals "_law_blocks" = some (some (.ref (He.ga K "_law_blocks")))) ∧ (PySem.W.keepIn K (.ref (He.ga K "_law_blocks")) = true) ∧ (PySem.W.nsIn K mainGlobals "_law_paper" = some (some (.ref (He.ga K "_law_paper")))) ∧ (PySem.W.keepIn K (.ref (He.ga K "_law_paper")) = true) ∧ (PySem.W.nsIn K mainGlobals "_law_is_pairs" = some (some (.ref (He.ga K "_law_is_pairs")))) := by
  unfold hdB3 at h
  obtain ⟨h0, h⟩ := He.ba h
  obtain ⟨h1, h⟩ := He.ba h
  obtain ⟨h2, h⟩ := He.ba h
  obtain ⟨h3, h⟩ := He.ba h
  obtain ⟨h4, h⟩ := He.ba h
  obtain ⟨h5, h⟩ := He.ba h
  obtain ⟨h6, h⟩ := He.ba h
  obtain ⟨h7, h⟩ := He.ba h
  obtain ⟨h8, h⟩ := He.ba h
  obtain ⟨h9, h⟩ := He.ba h
  obtain ⟨h10, h⟩ := He.ba h
  obtain ⟨h11, h⟩ := He.ba h
  obtain ⟨h12, h⟩ := He.ba h
  obtain ⟨h13, h⟩ := He.ba h
  obtain ⟨h14, h⟩ := He.ba h
  obtain ⟨h15, h⟩ := He.ba h
  obtain ⟨h16, h⟩ := He.ba h
  obtain ⟨h17, h⟩ := He.ba h
  obtain ⟨h18, h⟩ := He.ba h
  exact ⟨h0, He.eqO_ok h1, h2, h3, h4, He.eqO_ok h5, h6, He.eqO_ok h7, h8, He.eqO_ok h9, h10, He.eqO_ok h11, h12, He.eqO_ok h13, h14, He.eqO_ok h15, h16, He.eqO_ok h17, h18, He.eqO_ok h⟩
def hdB4 (K : PySem.W.Frag) : Bool := PySem.W.keepIn K (.ref (He.ga K "_law_is_pairs")) && (He.eqO (PySem.W.nsIn K mainGlobals "law") (some (some (.ref (He.ga K "law")))) && (PySem.W.keepIn K (.ref (He.ga K "law")) && (PySem.W.plainGet K (He.ga K "Table") Str.empty && (PySem.W.hasDictIn K (He.ga K "Table") && (PySem.W.plainOver K (He.ga K "Table") && (He.eqO (PySem.W.findIn K (.ref (He.ga K "Table")) "__setattr__") (some (some (.builtin "object.__setattr__"))) && (PySem.W.makesIn K (He.ga K "Table") && (PySem.W.keepIn K (.ref (He.ga K "Table")) && (He.eqO (PySem.W.findIn K (.ref (He.ga K "Table")) "size") (some none) && (He.eqO (PySem.W.findIn K (.ref (He.ga K "Table")) "_rows") (some none) && (He.eqO (PySem.W.findIn K (.ref (He.ga K "Table")) "_pairs") (some none) && (PySem.W.readsIn K (He.ga K "Table") (.type "type") && (He.eqO (PySem.W.specialIn K (.ref (He.ga K "Table")) "__getattribute__") (some (some (.builtin "type.__getattribute__"))) && (Hd.cvalB K (He.ga K "Table") "MOST" 6 && (He.eqO (PySem.W.findIn K (.ref (He.ga K "Table")) "__class__") (some (some (.builtin "object.__class__"))) && (He.eqO (PySem.W.specialIn K (.builtin "object.__class__") "__get__") (some (some (.builtin "getset_descriptor.__get__"))) && (decide (PySem.W.takesIn K (.builtin "object.__class__") = some true) && (decide (PySem.W.mroIn K (He.ga K "Table") (.type "object") = some true) && (PySem.W.selfFirst K (He.ga K "Table"))))))))))))))))))))
theorem hdT4 {K : PySem.W.Frag} (h : hdB4 K = true) : (PySem.W.keepIn K (.ref (He.ga K "_law_is_pairs")) = true) ∧ (PySem.W.nsIn K mainGlobals "law" = some (some (.ref (He.ga K "law")))) ∧ (PySem.W.keepIn K (.ref (He.ga K "law")) = true) ∧ (PySem.W.plainGet K (He.ga K "Table") Str.empty = true) ∧ (PySem.W.hasDictIn K (He.ga K "Table") = true) ∧ (PySem.W.plainOver K (He.ga K "Table") = true) ∧ (PySem.W.findIn K (.ref (He.ga K "Table")) "__setattr__" = some (some (.builtin "object.__setattr__"))) ∧ (PySem.W.makesIn K (He.ga K "Table") = true) ∧ (PySem.W.keepIn K (.ref (He.ga K "Table")) = true) ∧ (PySem.W.findIn K (.ref (He.ga K "Table")) "size" = some none) ∧ (PySem.W.findIn K (.ref (He.ga K "Table")) "_rows" = some none) ∧ (PySem.W.findIn K (.ref (He.ga K "Table")) "_pairs" = some none) ∧ (PySem.W.readsIn K (He.ga K "Table") (.type "type") = true) ∧ (PySem.W.specialIn K (.ref (He.ga K "Table")) "__getattribute__" = some (some (.builtin "type.__getattribute__"))) ∧ (∃ t, PySem.W.findCls K (.ref (He.ga K "Table")) (.type "type") "MOST" = some (.val (.int 6 t))) ∧ (PySem.W.findIn K (.ref (He.ga K "Table")) "__class__" = some (some (.builtin "object.__class__"))) ∧ (PySem.W.specialIn K (.builtin "object.__class__") "__get__" = some (some (.builtin "getset_descriptor.__get__"))) ∧ (PySem.W.takesIn K (.builtin "object.__class__") = some true) ∧ (PySem.W.mroIn K (He.ga K "Table") (.type "object") = some true) ∧ (PySem.W.selfFirst K (He.ga K "Table") = true) := by
  unfold hdB4 at h
  obtain ⟨h0, h⟩ := He.ba h
  obtain ⟨h1, h⟩ := He.ba h
  obtain ⟨h2, h⟩ := He.ba h
  obtain ⟨h3, h⟩ := He.ba h
  obtain ⟨h4, h⟩ := He.ba h
  obtain ⟨h5, h⟩ := He.ba h
  obtain ⟨h6, h⟩ := He.ba h
  obtain ⟨h7, h⟩ := He.ba h
  obtain ⟨h8, h⟩ := He.ba h
  obtain ⟨h9, h⟩ := He.ba h
  obtain ⟨h10, h⟩ := He.ba h
  obtain ⟨h11, h⟩ := He.ba h
  obtain ⟨h12, h⟩ := He.ba h
  obtain ⟨h13, h⟩ := He.ba h
  obtain ⟨h14, h⟩ := He.ba h
  obtain ⟨h15, h⟩ := He.ba h
  obtain ⟨h16, h⟩ := He.ba h
  obtain ⟨h17, h⟩ := He.ba h
  obtain ⟨h18, h⟩ := He.ba h
  exact ⟨h0, He.eqO_ok h1, h2, h3, h4, h5, He.eqO_ok h6, h7, h8, He.eqO_ok h9, He.eqO_ok h10, He.eqO_ok h11, h12, He.eqO_ok h13, Hd.cval_ok h14, He.eqO_ok h15, He.eqO_ok h16, of_decide_eq_true h17, of_decide_eq_true h18, h⟩
def hdB5 (K : PySem.W.Frag) : Bool := PySem.W.notFirst K (He.ga K "Table") (.ref (He.ga K "Table")) && (He.eqO (PySem.W.nsIn K mainGlobals "len") (some none) && (He.eqO (PySem.W.nsIn K mainGlobals "range") (some none) && (He.eqO (PySem.W.nsIn K mainGlobals "all") (some none) && (He.eqO (PySem.W.nsIn K mainGlobals "list") (some none) && (He.eqO (PySem.W.nsIn K mainGlobals "tuple") (some none) && (He.eqO (PySem.W.nsIn K mainGlobals "enumerate") (some none) && (He.eqO (PySem.W.nsIn K mainGlobals "isinstance") (some none) && (He.eqO (PySem.W.nsIn K mainGlobals "int") (some none) && (He.eqO (PySem.W.nsIn K mainGlobals "bool") (some none) && (He.eqO (PySem.W.nsIn K mainGlobals "str") (some none) && (He.eqO (PySem.W.nsIn K mainGlobals "abs") (some none) && (He.eqO (PySem.W.nsIn K mainGlobals "iter") (some none)))))))))))))
theorem hdT5 {K : PySem.W.Frag} (h : hdB5 K = true) : (PySem.W.notFirst K (He.ga K "Table") (.ref (He.ga K "Table")) = true) ∧ (PySem.W.nsIn K mainGlobals "len" = some none) ∧ (PySem.W.nsIn K mainGlobals "range" = some none) ∧ (PySem.W.nsIn K mainGlobals "all" = some none) ∧ (PySem.W.nsIn K mainGlobals "list" = some none) ∧ (PySem.W.nsIn K mainGlobals "tuple" = some none) ∧ (PySem.W.nsIn K mainGlobals "enumerate" = some none) ∧ (PySem.W.nsIn K mainGlobals "isinstance" = some none) ∧ (PySem.W.nsIn K mainGlobals "int" = some none) ∧ (PySem.W.nsIn K mainGlobals "bool" = some none) ∧ (PySem.W.nsIn K mainGlobals "str" = some none) ∧ (PySem.W.nsIn K mainGlobals "abs" = some none) ∧ (PySem.W.nsIn K mainGlobals "iter" = some none) := by
  unfold hdB5 at h
  obtain ⟨h0, h⟩ := He.ba h
  obtain ⟨h1, h⟩ := He.ba h
  obtain ⟨h2, h⟩ := He.ba h
  obtain ⟨h3, h⟩ := He.ba h
  obtain ⟨h4, h⟩ := He.ba h
  obtain ⟨h5, h⟩ := He.ba h
  obtain ⟨h6, h⟩ := He.ba h
  obtain ⟨h7, h⟩ := He.ba h
  obtain ⟨h8, h⟩ := He.ba h
  obtain ⟨h9, h⟩ := He.ba h
  obtain ⟨h10, h⟩ := He.ba h
  obtain ⟨h11, h⟩ := He.ba h
  exact ⟨h0, He.eqO_ok h1, He.eqO_ok h2, He.eqO_ok h3, He.eqO_ok h4, He.eqO_ok h5, He.eqO_ok h6, He.eqO_ok h7, He.eqO_ok h8, He.eqO_ok h9, He.eqO_ok h10, He.eqO_ok h11, He.eqO_ok h⟩
def hdB (K : PySem.W.Frag) : Bool := hdB0 K && (hdB1 K && (hdB2 K && (hdB3 K && (hdB4 K && (hdB5 K)))))
def hdF0 : Hd.FnX := ⟨fun K => (He.ga K "is_word"), "is_word", "is_word", defArgs sIsWord, defBody sIsWord, defScope sIsWord, false⟩
def hdF1 : Hd.FnX := ⟨fun K => (He.ga K "all_words"), "all_words", "all_words", defArgs sAllWords, defBody sAllWords, defScope sAllWords, false⟩
def hdF2 : Hd.FnX := ⟨fun K => (He.ga K "is_size"), "is_size", "is_size", defArgs sIsSize, defBody sIsSize, defScope sIsSize, false⟩
def hdF3 : Hd.FnX := ⟨fun K => (He.ga K "check_size"), "check_size", "check_size", defArgs sCheckSize, defBody sCheckSize, defScope sCheckSize, false⟩
def hdF4 : Hd.FnX := ⟨fun K => (He.ga K "check_word"), "check_word", "check_word", defArgs sCheckWord, defBody sCheckWord, defScope sCheckWord, false⟩
def hdF5 : Hd.FnX := ⟨fun K => (He.ga K "ascending"), "ascending", "ascending", defArgs sAsc, defBody sAsc, defScope sAsc, false⟩
def hdF6 : Hd.FnX := ⟨fun K => (He.ma K (He.ga K "Table") "__init__"), "__init__", "Table.__init__", defArgs sInit, defBody sInit, defScope sInit, false⟩
def hdF7 : Hd.FnX := ⟨fun K => (He.ma K (He.ga K "Table") "rows"), "rows", "Table.rows", defArgs sRows, defBody sRows, defScope sRows, false⟩
def hdF8 : Hd.FnX := ⟨fun K => (He.ga K "_law_box"), "_law_box", "_law_box", defArgs sBox, defBody sBox, defScope sBox, false⟩
def hdF9 : Hd.FnX := ⟨fun K => (He.ga K "_law_take"), "_law_take", "_law_take", defArgs sTake, defBody sTake, defScope sTake, false⟩
def hdF10 : Hd.FnX := ⟨fun K => (He.ga K "_law_words"), "_law_words", "_law_words", defArgs sWords, defBody sWords, defScope sWords, false⟩
def hdF11 : Hd.FnX := ⟨fun K => (He.ga K "_law_rows"), "_law_rows", "_law_rows", defArgs sRowsL, defBody sRowsL, defScope sRowsL, false⟩
def hdF12 : Hd.FnX := ⟨fun K => (He.ga K "_law_is_int"), "_law_is_int", "_law_is_int", defArgs sIsInt, defBody sIsInt, defScope sIsInt, false⟩
def hdF13 : Hd.FnX := ⟨fun K => (He.ga K "_law_is_words"), "_law_is_words", "_law_is_words", defArgs sIsWords, defBody sIsWords, defScope sIsWords, false⟩
def hdF14 : Hd.FnX := ⟨fun K => (He.ga K "_law_same"), "_law_same", "_law_same", defArgs sSame, defBody sSame, defScope sSame, false⟩
def hdF15 : Hd.FnX := ⟨fun K => (He.ma K (He.ga K "Table") "_out_of_some"), "_out_of_some", "Table._out_of_some", defArgs sOutSome, defBody sOutSome, defScope sOutSome, false⟩
def hdF16 : Hd.FnX := ⟨fun K => (He.ga K "check_same_size"), "check_same_size", "check_same_size", defArgs sChSame, defBody sChSame, defScope sChSame, false⟩
def hdF17 : Hd.FnX := ⟨fun K => (He.ma K (He.ga K "Table") "__invert__"), "__invert__", "Table.__invert__", defArgs sInvert, defBody sInvert, defScope sInvert, false⟩
def hdF18 : Hd.FnX := ⟨fun K => (He.ma K (He.ga K "Table") "_out_of_each"), "_out_of_each", "Table._out_of_each", defArgs sEach, defBody sEach, defScope sEach, false⟩
def hdF19 : Hd.FnX := ⟨fun K => (He.ma K (He.ga K "Table") "__rshift__"), "__rshift__", "Table.__rshift__", defArgs sRsh, defBody sRsh, defScope sRsh, false⟩
def hdF20 : Hd.FnX := ⟨fun K => (He.ma K (He.ga K "Table") "__mul__"), "__mul__", "Table.__mul__", defArgs sMul, defBody sMul, defScope sMul, false⟩
def hdF21 : Hd.FnX := ⟨fun K => (He.ga K "_law_join"), "_law_join", "_law_join", defArgs sJoin, defBody sJoin, defScope sJoin, false⟩
def hdF22 : Hd.FnX := ⟨fun K => (He.ma K (He.ga K "Table") "__eq__"), "__eq__", "Table.__eq__", defArgs sEqT, defBody sEqT, defScope sEqT, false⟩
def hdF23 : Hd.FnX := ⟨fun K => (He.ma K (He.ga K "Table") "__iter__"), "__iter__", "Table.__iter__", defArgs sIter, defBody sIter, defScope sIter, false⟩
def hdF24 : Hd.FnX := ⟨fun K => (He.ma K (He.ga K "Table") "__contains__"), "__contains__", "Table.__contains__", defArgs sContains, defBody sContains, defScope sContains, false⟩
def hdF25 : Hd.FnX := ⟨fun K => (He.ma K (He.ga K "Table") "__getitem__"), "__getitem__", "Table.__getitem__", defArgs sGetitem, defBody sGetitem, defScope sGetitem, false⟩
def hdF26 : Hd.FnX := ⟨fun K => (He.ga K "further"), "further", "further", defArgs sFur, defBody sFur, defScope sFur, false⟩
def hdF27 : Hd.FnX := ⟨fun K => (He.ga K "lost_pair"), "lost_pair", "lost_pair", defArgs sLost, defBody sLost, defScope sLost, false⟩
def hdF28 : Hd.FnX := ⟨fun K => (He.ga K "first_missing"), "first_missing", "first_missing", defArgs sMissing, defBody sMissing, defScope sMissing, false⟩
def hdF29 : Hd.FnX := ⟨fun K => (He.ga K "_other_sender"), "_other_sender", "_other_sender", defArgs sOther, defBody sOther, defScope sOther, false⟩
def hdF30 : Hd.FnX := ⟨fun K => (He.ga K "lost_holds"), "lost_holds", "lost_holds", defArgs sHolds, defBody sHolds, defScope sHolds, false⟩
def hdF31 : Hd.FnX := ⟨fun K => (He.ga K "_law_blocks"), "_law_blocks", "_law_blocks", defArgs sBlocks, defBody sBlocks, defScope sBlocks, false⟩
def hdF32 : Hd.FnX := ⟨fun K => (He.ga K "_law_paper"), "_law_paper", "_law_paper", defArgs sPaper, defBody sPaper, defScope sPaper, false⟩
def hdF33 : Hd.FnX := ⟨fun K => (He.ga K "_law_is_pairs"), "_law_is_pairs", "_law_is_pairs", defArgs sIsPairs, defBody sIsPairs, defScope sIsPairs, false⟩
def hdF34 : Hd.FnX := ⟨fun K => (He.ga K "law"), "law", "law", defArgs sLaw, defBody sLaw, defScope sLaw, false⟩
def hdF : List Hd.FnX := [hdF0, hdF1, hdF2, hdF3, hdF4, hdF5, hdF6, hdF7, hdF8, hdF9, hdF10, hdF11, hdF12, hdF13, hdF14, hdF15, hdF16, hdF17, hdF18, hdF19, hdF20, hdF21, hdF22, hdF23, hdF24, hdF25, hdF26, hdF27, hdF28, hdF29] ++ [hdF30, hdF31, hdF32, hdF33, hdF34]
abbrev hdR : PySem.W.OpenRow := PySem.W.OpenLaw.row PySem.Challenge.rw_murmurline_k32_whole_only_loses_more
def hdAs (g : Addr → Option Obj) : List Addr := Hd.reach g ["Table"] ["is_word", "all_words", "is_size", "check_size", "check_word", "ascending", "_law_box", "_law_take", "_law_words", "_law_rows", "_law_is_int", "_law_is_words", "_law_same", "check_same_size", "_law_join", "further", "lost_pair", "first_missing", "_other_sender", "lost_holds", "_law_blocks", "_law_paper", "_law_is_pairs", "law"] [("Table", ["__init__", "rows", "_out_of_some", "__invert__", "_out_of_each", "__rshift__", "__mul__", "__eq__", "__iter__", "__contains__", "__getitem__"])]
abbrev hdH : PySem.W.Hook := Hd.hookB hdAs hdB hdF
def hdO (s : PySem.W.SharedT) : Hd.AlB := Hd.obsBG hdAs hdB hdF (HandSHeadRun.getT s)
theorem hdO_eq (s : PySem.W.SharedT) : hdO s = hdH.obs s.abs := Hd.obsBG_eq (HandSHeadRun.getT_eq s)
def hdN0 : List PySem.Str := ["_wall", "MurmurError", "BadSize", "BadTable", "UnknownWord", "SizeMismatch", "is_size", "check_size", "check_same_size", "is_word", "all_words", "check_word", "check_words", "ascending", "Table", "first_missing", "further", "lost_pair", "_other_sender", "lost_holds", "_law_box", "_law_take", "_law_words", "_law_rows", "_law_join", "_law_is_int", "_law_is_pairs", "_law_is_words", "_law_same", "_law_blocks"]
def hdN1 : List PySem.Str := ["_law_paper"]
def hdN : List PySem.Str := hdN0 ++ hdN1
set_option maxHeartbeats 0 in
theorem hd_run (w : World) : HandSHeadRun.RunEq hdR (PySem.W.view hdR.prog [35]) hdH hdO 12000 hdN w := by
  intro os
  kernel_rfl
theorem hd_facts {w : World} {K : PySem.W.Frag} {h : Heap} {mg : Str → Option Value} {fa : Addr} (X : K.In h) (G : h.Ns mainGlobals mg) (hfa : mg "law" = some (.ref fa)) (c : Hd.SaysB hdB hdF K) :
    ∃ fd : FuncData, (∀ (s : Shared) (v : Value), BindsTo s fd ⟨[v], []⟩ [("_law_script", v)]) ∧ ∀ base : Heap, K.In base → base.Ns mainGlobals mg → FnOk (PySem.Challenge.rw_murmurline_k32_whole_only_loses_more).prog w K mg base CX0 8 fa fd ["_law_script"] (spLaw K) := by
  have cB := c.bool
  unfold hdB at cB
  obtain ⟨cB0, cB⟩ := He.ba cB
  obtain ⟨aC, a1, k1, a2, k2, a3, k3, a4, k4, a5, k5, a6, k6, a7, i7, k7, a8, i8, k8, a9⟩ := hdT0 cB0
  obtain ⟨cB1, cB⟩ := He.ba cB
  obtain ⟨k9, a10, k10, a11, k11, a12, k12, a13, k13, a14, k14, a15, k15, a16, i16, k16, a17, k17, a18, i18⟩ := hdT1 cB1
  obtain ⟨cB2, cB⟩ := He.ba cB
  obtain ⟨k18, a19, i19, k19, a20, i20, k20, a21, i21, k21, a22, k22, a23, i23, k23, a24, i24, k24, a25, i25⟩ := hdT2 cB2
  obtain ⟨cB3, cB⟩ := He.ba cB
  obtain ⟨k25, a26, i26, n26, k26, a27, k27, a28, k28, a29, k29, a30, k30, a31, k31, a32, k32, a33, k33, a34⟩ := hdT3 cB3
  obtain ⟨cB4, cB⟩ := He.ba cB
  obtain ⟨k34, a35, k35, pg, hd, po, sa, mk, kc, nS, nR, nP, rd, rg, ms, ia, ic, it, im, sf⟩ := hdT4 cB4
  obtain ⟨nf, z_len, z_range, z_all, z_list, z_tuple, z_enumerate, z_isinstance, z_int, z_bool, z_str, z_abs, z_iter⟩ := hdT5 cB
  obtain ⟨oc1, od1, sl1, kV1, dc1, pm1, an1, cd1, ct1, l1, c1⟩ := Hd.fnx_plain (c.def_ 0 (d := hdF0) rfl).1 (c.def_ 0 (d := hdF0) rfl).2
  obtain ⟨oc2, od2, sl2, kV2, dc2, pm2, an2, cd2, ct2, l2, c2⟩ := Hd.fnx_plain (c.def_ 1 (d := hdF1) rfl).1 (c.def_ 1 (d := hdF1) rfl).2
  obtain ⟨oc3, od3, sl3, kV3, dc3, pm3, an3, cd3, ct3, l3, c3⟩ := Hd.fnx_plain (c.def_ 2 (d := hdF2) rfl).1 (c.def_ 2 (d := hdF2) rfl).2
  obtain ⟨oc4, od4, sl4, kV4, dc4, pm4, an4, cd4, ct4, l4, c4⟩ := Hd.fnx_plain (c.def_ 3 (d := hdF3) rfl).1 (c.def_ 3 (d := hdF3) rfl).2
  obtain ⟨oc5, od5, sl5, kV5, dc5, pm5, an5, cd5, ct5, l5, c5⟩ := Hd.fnx_plain (c.def_ 4 (d := hdF4) rfl).1 (c.def_ 4 (d := hdF4) rfl).2
  obtain ⟨oc6, od6, sl6, kV6, dc6, pm6, an6, cd6, ct6, l6, c6⟩ := Hd.fnx_plain (c.def_ 5 (d := hdF5) rfl).1 (c.def_ 5 (d := hdF5) rfl).2
  obtain ⟨oc7, od7, sl7, kV7, dc7, pm7, an7, cd7, ct7, l7, c7⟩ := Hd.fnx_plain (c.def_ 6 (d := hdF6) rfl).1 (c.def_ 6 (d := hdF6) rfl).2
  obtain ⟨oc8, od8, sl8, kV8, dc8, pm8, an8, cd8, ct8, l8, c8⟩ := Hd.fnx_plain (c.def_ 7 (d := hdF7) rfl).1 (c.def_ 7 (d := hdF7) rfl).2
  obtain ⟨oc9, od9, sl9, kV9, dc9, pm9, an9, cd9, ct9, l9, c9⟩ := Hd.fnx_plain (c.def_ 8 (d := hdF8) rfl).1 (c.def_ 8 (d := hdF8) rfl).2
  obtain ⟨oc10, od10, sl10, kV10, dc10, pm10, an10, cd10, ct10, l10, c10⟩ := Hd.fnx_plain (c.def_ 9 (d := hdF9) rfl).1 (c.def_ 9 (d := hdF9) rfl).2
  obtain ⟨oc11, od11, sl11, kV11, dc11, pm11, an11, cd11, ct11, l11, c11⟩ := Hd.fnx_plain (c.def_ 10 (d := hdF10) rfl).1 (c.def_ 10 (d := hdF10) rfl).2
  obtain ⟨oc12, od12, sl12, kV12, dc12, pm12, an12, cd12, ct12, l12, c12⟩ := Hd.fnx_plain (c.def_ 11 (d := hdF11) rfl).1 (c.def_ 11 (d := hdF11) rfl).2
  obtain ⟨oc13, od13, sl13, kV13, dc13, pm13, an13, cd13, ct13, l13, c13⟩ := Hd.fnx_plain (c.def_ 12 (d := hdF12) rfl).1 (c.def_ 12 (d := hdF12) rfl).2
  obtain ⟨oc14, od14, sl14, kV14, dc14, pm14, an14, cd14, ct14, l14, c14⟩ := Hd.fnx_plain (c.def_ 13 (d := hdF13) rfl).1 (c.def_ 13 (d := hdF13) rfl).2
  obtain ⟨oc15, od15, sl15, kV15, dc15, pm15, an15, cd15, ct15, l15, c15⟩ := Hd.fnx_plain (c.def_ 14 (d := hdF14) rfl).1 (c.def_ 14 (d := hdF14) rfl).2
  obtain ⟨oc16, od16, sl16, kV16, dc16, pm16, an16, cd16, ct16, l16, c16⟩ := Hd.fnx_plain (c.def_ 15 (d := hdF15) rfl).1 (c.def_ 15 (d := hdF15) rfl).2
  obtain ⟨oc17, od17, sl17, kV17, dc17, pm17, an17, cd17, ct17, l17, c17⟩ := Hd.fnx_plain (c.def_ 16 (d := hdF16) rfl).1 (c.def_ 16 (d := hdF16) rfl).2
  obtain ⟨oc18, od18, sl18, kV18, dc18, pm18, an18, cd18, ct18, l18, c18⟩ := Hd.fnx_plain (c.def_ 17 (d := hdF17) rfl).1 (c.def_ 17 (d := hdF17) rfl).2
  obtain ⟨oc19, od19, sl19, kV19, dc19, pm19, an19, cd19, ct19, l19, c19⟩ := Hd.fnx_plain (c.def_ 18 (d := hdF18) rfl).1 (c.def_ 18 (d := hdF18) rfl).2
  obtain ⟨oc20, od20, sl20, kV20, dc20, pm20, an20, cd20, ct20, l20, c20⟩ := Hd.fnx_plain (c.def_ 19 (d := hdF19) rfl).1 (c.def_ 19 (d := hdF19) rfl).2
  obtain ⟨oc21, od21, sl21, kV21, dc21, pm21, an21, cd21, ct21, l21, c21⟩ := Hd.fnx_plain (c.def_ 20 (d := hdF20) rfl).1 (c.def_ 20 (d := hdF20) rfl).2
  obtain ⟨oc22, od22, sl22, kV22, dc22, pm22, an22, cd22, ct22, l22, c22⟩ := Hd.fnx_plain (c.def_ 21 (d := hdF21) rfl).1 (c.def_ 21 (d := hdF21) rfl).2
  obtain ⟨oc23, od23, sl23, kV23, dc23, pm23, an23, cd23, ct23, l23, c23⟩ := Hd.fnx_plain (c.def_ 22 (d := hdF22) rfl).1 (c.def_ 22 (d := hdF22) rfl).2
  obtain ⟨oc24, od24, sl24, kV24, dc24, pm24, an24, cd24, ct24, l24, c24⟩ := Hd.fnx_plain (c.def_ 23 (d := hdF23) rfl).1 (c.def_ 23 (d := hdF23) rfl).2
  obtain ⟨oc25, od25, sl25, kV25, dc25, pm25, an25, cd25, ct25, l25, c25⟩ := Hd.fnx_plain (c.def_ 24 (d := hdF24) rfl).1 (c.def_ 24 (d := hdF24) rfl).2
  obtain ⟨oc26, od26, sl26, kV26, dc26, pm26, an26, cd26, ct26, l26, c26⟩ := Hd.fnx_plain (c.def_ 25 (d := hdF25) rfl).1 (c.def_ 25 (d := hdF25) rfl).2
  obtain ⟨oc27, od27, sl27, kV27, dc27, pm27, an27, cd27, ct27, l27, c27⟩ := Hd.fnx_plain (c.def_ 26 (d := hdF26) rfl).1 (c.def_ 26 (d := hdF26) rfl).2
  obtain ⟨oc28, od28, sl28, kV28, dc28, pm28, an28, cd28, ct28, l28, c28⟩ := Hd.fnx_plain (c.def_ 27 (d := hdF27) rfl).1 (c.def_ 27 (d := hdF27) rfl).2
  obtain ⟨oc29, od29, sl29, kV29, dc29, pm29, an29, cd29, ct29, l29, c29⟩ := Hd.fnx_plain (c.def_ 28 (d := hdF28) rfl).1 (c.def_ 28 (d := hdF28) rfl).2
  obtain ⟨oc30, od30, sl30, kV30, dc30, pm30, an30, cd30, ct30, l30, c30⟩ := Hd.fnx_plain (c.def_ 29 (d := hdF29) rfl).1 (c.def_ 29 (d := hdF29) rfl).2
  obtain ⟨oc31, od31, sl31, kV31, dc31, pm31, an31, cd31, ct31, l31, c31⟩ := Hd.fnx_plain (c.def_ 30 (d := hdF30) rfl).1 (c.def_ 30 (d := hdF30) rfl).2
  obtain ⟨oc32, od32, sl32, kV32, dc32, pm32, an32, cd32, ct32, l32, c32⟩ := Hd.fnx_plain (c.def_ 31 (d := hdF31) rfl).1 (c.def_ 31 (d := hdF31) rfl).2
  obtain ⟨oc33, od33, sl33, kV33, dc33, pm33, an33, cd33, ct33, l33, c33⟩ := Hd.fnx_plain (c.def_ 32 (d := hdF32) rfl).1 (c.def_ 32 (d := hdF32) rfl).2
  obtain ⟨oc34, od34, sl34, kV34, dc34, pm34, an34, cd34, ct34, l34, c34⟩ := Hd.fnx_plain (c.def_ 33 (d := hdF33) rfl).1 (c.def_ 33 (d := hdF33) rfl).2
  obtain ⟨oc35, od35, sl35, kV35, dc35, pm35, an35, cd35, ct35, l35, c35⟩ := Hd.fnx_plain (c.def_ 34 (d := hdF34) rfl).1 (c.def_ 34 (d := hdF34) rfl).2
  obtain ⟨tM, ms⟩ := ms
  exact all_mk (l := PySem.Challenge.rw_murmurline_k32_whole_only_loses_more) X G hfa aC a1 l1 c1 k1 a2 l2 c2 k2 a3 l3 c3 k3 a4 l4 c4 k4 a5 l5 c5 k5 a6 l6 c6 k6 a7 i7 l7 c7 k7 a8 i8 l8 c8 k8 a9 l9 c9 k9 a10 l10 c10 k10 a11 l11 c11 k11 a12 l12 c12 k12 a13 l13 c13 k13 a14 l14 c14 k14 a15 l15 c15 k15 a16 i16 l16 c16 k16 a17 l17 c17 k17 a18 i18 l18 c18 k18 a19 i19 l19 c19 k19 a20 i20 l20 c20 k20 a21 i21 l21 c21 k21 a22 l22 c22 k22 a23 i23 l23 c23 k23 a24 i24 l24 c24 k24 a25 i25 l25 c25 k25 a26 i26 n26 l26 c26 k26 a27 l27 c27 k27 a28 l28 c28 k28 a29 l29 c29 k29 a30 l30 c30 k30 a31 l31 c31 k31 a32 l32 c32 k32 a33 l33 c33 k33 a34 l34 c34 k34 a35 l35 c35 k35 pg hd po sa mk kc nS nR nP rd rg ms ia ic it im sf nf z_len z_range z_all z_list z_tuple z_enumerate z_isinstance z_int z_bool z_str z_abs z_iter
end Toy
open PySem PySem.W PyProof.Rows in
set_option maxRecDepth 100000 in
set_option maxHeartbeats 0 in
theorem PySem.Challenge.cw_murmurline_k32_whole_only_loses_more_holds : PySem.Challenge.rw_murmurline_k32_whole_only_loses_more.Holds := by
  w_on; o_law
  refine HandSHeadRun.head_any (r := OpenLaw.row PySem.Challenge.rw_murmurline_k32_whole_only_loses_more) (q := view (OpenLaw.row PySem.Challenge.rw_murmurline_k32_whole_only_loses_more).prog [35]) (H := Toy.hdH) (ob := Toy.hdO) (M := 12000) (loose := Toy.hdN) (d := HandSHeadRun.topDef (OpenLaw.row PySem.Challenge.rw_murmurline_k32_whole_only_loses_more).prog 35) (kwd := []) Toy.hdO_eq
    (by kernel_rfl) (fun s => by kernel_rfl) Toy.hd_run (by kernel_rfl) (by kernel_rfl) (by kernel_rfl) (by rfl) (by first | assumption | decide +kernel) (by decide +kernel) ⟨rfl, rfl, rfl, rfl, rfl, by decide +kernel⟩ ?hw ?hc
  case hw => w_witness2
  case hc =>
    refine L2.walk_ofE (l := PySem.Challenge.rw_murmurline_k32_whole_only_loses_more) (n := 63) (k := 8) (x := "_law_script") (CX := L2.CX0) rfl (by decide) (by kernel_rfl) ⟨rfl, by decide, by decide⟩ ?F (fun _ _ _ _ z => z)
    intro w mg fa h Y G hmg0
    obtain ⟨K, KX, c⟩ := Y
    have hmg : mg ("law" : PySem.Str) = some (.ref fa) := by
      have e : (HandSHeadRun.topDef (OpenLaw.row PySem.Challenge.rw_murmurline_k32_whole_only_loses_more).prog 35).name = ("law" : PySem.Str) := by kernel_rfl
      rw [← e]
      exact hmg0
    obtain ⟨fd, hb, hF⟩ := Toy.hd_facts (w := w) KX G hmg c
    exact ⟨K, fd, Toy.spLaw K, KX, hb, fun H a ns hl _ hS => ⟨a, ns, rfl, hS, hl, fun _ => rfl⟩, hF⟩
