import PyProof.Rows.All
import Wide.All
import OpenK.AllK
import Wide.FinOn
import KE.KStateDown
import KE.KExcIs
import KE.KIsAll
import Lean
import HandS.Base
import HandS.Call
import HandS.Ends
import HandS.More
import HandS.Words
import HandS.Exc
import HandS.ForMost
import HandS.ClsMeth
import HandS.Head0
import HandS.Head1
import HandS.Head2
import HandS.HeadEnd
import HandS.HeadHook1
import HandS.HeadHook2
import KE.KExcSuper
import HandS.ForExc
import HandS.ExcInit
import HandS.ExcSuper
import HandS.FStr
import HandS.Nested
import HandS.ExcField
import HandS.ExcCtx
import HandS.Comp
import HandS.Hot
import HandS.HotCalls
import HandS.ExcIs
import HandS.Star
import HandS.IsInst
import HandS.Walk
import HandS.SlotsOwn
import KE.GoesEnum
import HandS.Codes
import HandS.Deep
import HandS.Conv
import HandS.Style
import HandS.Property
import KE.KSuper
import KE.RegKSuper
import PySem.Challenge.RW_murmurline_k14_people_refused
set_option Elab.async false
set_option linter.all false
set_option maxRecDepth 100000
set_option maxHeartbeats 4000000
set_option exponentiation.threshold 2000
/-! the head's facts by one Bool over the objects that the top has made -/
namespace Hd
open PySem PySem.Spec PyProof.Rows L2
/-! a small part of the heap: by names -/
def frNat {α : Type} (n : Nat) (k : Nat → α) : α := match n with
  | 0 => k 0
  | m + 1 => k (m + 1)
def forceL {α : Type} : List Addr → (List Addr → α) → α
  | [], k => k []
  | a :: r, k => frNat a fun a => forceL r fun r => k (a :: r)
def forceK {α : Type} (g : Addr → Option Obj) : List Addr → (PySem.W.Frag → α) → α
  | [], k => k []
  | a :: r, k => match g a with
    | some ⟨c, d, dt, sl⟩ => forceK g r fun r => k ((a, ⟨c, d, dt, sl⟩) :: r)
    | none => forceK g r k
theorem forceK_eq {α : Type} {g : Addr → Option Obj} : ∀ (l : List Addr) (k : PySem.W.Frag → α), forceK g l k = k (He.frG g l)
  | [], k => rfl
  | a :: r, k => by
    unfold forceK He.frG
    rw [List.filterMap_cons]
    cases h : g a with
    | none => exact forceK_eq r k
    | some o => exact forceK_eq r _
def nsOf (g : Addr → Option Obj) (c : Addr) : Addr := match g c with
  | some ⟨_, _, .cls cd, _⟩ => cd.ns
  | _ => 0
def gaG (g : Addr → Option Obj) (x : Str) : Addr := He.ga (He.frG g [mainGlobals]) x
def inNs (g : Addr → Option Obj) (ns : Addr) (m : Str) : Addr := match PySem.W.nsIn (He.frG g [ns]) ns m with
  | some (some (.ref a)) => a
  | _ => 0
def refs1 (g : Addr → Option Obj) (a : Addr) : List Addr := match g a with
  | some o => He.refsD o
  | none => []
def refs2 (g : Addr → Option Obj) (a : Addr) : List Addr := match g a with
  | some ⟨c, d, .func fd, sl⟩ => He.refsD ⟨c, d, .func fd, sl⟩
  | _ => []
def reach (g : Addr → Option Obj) (cls globs : List Str) (ms : List (Str × List Str)) : List Addr :=
  forceL (cls.map (gaG g)) fun cs => forceL (cs.map (nsOf g)) fun ns => forceL (globs.map (gaG g)) fun gs =>
  forceL (ms.flatMap fun p => p.2.map (inNs g (nsOf g (gaG g p.1)))) fun fs => forceL ((gs ++ fs).flatMap (refs1 g)) fun f1 => forceL (f1.flatMap (refs2 g)) fun f2 =>
  [mainGlobals, cStatics] ++ cs ++ ns ++ gs ++ fs ++ f1 ++ f2
/-- a def: where it stands; sup: it has the cell of its class -/
structure FnX where
  adr : PySem.W.Frag → Addr
  name : Str
  qual : Str
  params : Arguments
  body : List Stmt
  scope : Scope
  sup : Bool
abbrev FnO : Type := Option (Str × Str × Arguments × FuncBody × Scope × Addr × Value × Addr)
def obsAt (K : PySem.W.Frag) (a : Addr) : FnO := match K.lookup a with
  | some ⟨_, _, .func fd, _⟩ => some (fd.name, fd.qualname, fd.params, fd.body, fd.scope, fd.globals, fd.defaults, fd.builtins)
  | _ => none
def FnX.val (d : FnX) : FnO := some (d.name, d.qual, d.params, .stmts d.body, d.scope, mainGlobals, .none, builtinsNs)
def cellOf (K : PySem.W.Frag) (a : Addr) : Addr := match K.lookup a with
  | some ⟨_, _, .func fd, _⟩ => (match fd.closure with
    | [(_, c)] => c
    | _ => 0)
  | _ => 0
def codeOf (K : PySem.W.Frag) (a : Addr) : Addr := match K.lookup a with
  | some ⟨_, _, .func fd, _⟩ => (match fd.code with
    | .ref c => c
    | _ => 0)
  | _ => 0
def okAt (K : PySem.W.Frag) (a : Addr) (q : Str) (sup : Bool) : Bool := match K.lookup a with
  | some ⟨_, _, .func fd, _⟩ => PySem.W.codeIn K fd.code q && (match sup, fd.closure with
    | false, [] => true
    | true, [(x, _)] => decide (x = "__class__")
    | _, _ => false)
  | _ => false
theorem fnx_plain {K : PySem.W.Frag} {a : Addr} {n q : Str} {ps : Arguments} {b : List Stmt} {sc : Scope} (e : obsAt K a = some (n, q, ps, .stmts b, sc, mainGlobals, .none, builtinsNs)) (c : okAt K a q false = true) :
    ∃ oc od osl kV doc pm an cdv ct, K.lookup a = some ⟨oc, od, .func (PySem.W.fnOf n q ps b sc .none kV doc pm an cdv ct), osl⟩ ∧ PySem.W.codeIn K cdv q = true := by
  unfold obsAt at e
  unfold okAt at c
  cases lk : K.lookup a with
  | none =>
    rw [lk] at e
    cases e
  | some o =>
    obtain ⟨oc, od, dt, osl⟩ := o
    rw [lk] at c e
    cases dt with
    | func fd =>
      obtain ⟨n1, n2, n3, n4, n5, n6, n7, n8, n9, n10, n11, n12, n13, n14, n15⟩ := fd
      have e2 : (some (n1, n2, n3, n4, n5, n6, n8, n15) : FnO) = some (n, q, ps, .stmts b, sc, mainGlobals, .none, builtinsNs) := e
      simp only [Option.some.injEq, Prod.mk.injEq] at e2
      obtain ⟨h1, h2, h3, h4, h5, h6, h7, h8⟩ := e2
      subst h1 h2 h3 h4 h5 h6 h7 h8
      obtain ⟨c1, c2⟩ := He.ba c
      cases n7 with
      | nil => exact ⟨oc, od, osl, n9, n10, n11, n12, n13, n14, rfl, c1⟩
      | cons x r => cases c2
    | _ => cases c
theorem fnx_sup {K : PySem.W.Frag} {a : Addr} {n q : Str} {ps : Arguments} {b : List Stmt} {sc : Scope} (e : obsAt K a = some (n, q, ps, .stmts b, sc, mainGlobals, .none, builtinsNs)) (c : okAt K a q true = true) :
    ∃ oc od osl kV doc pm an ct, K.lookup a = some ⟨oc, od, .func (PySem.W.ksFn n q ps b sc .none kV doc pm an (.ref (codeOf K a)) ct (cellOf K a)), osl⟩ ∧ PySem.W.codeIn K (.ref (codeOf K a)) q = true := by
  unfold obsAt at e
  unfold okAt at c
  cases lk : K.lookup a with
  | none =>
    rw [lk] at e
    cases e
  | some o =>
    obtain ⟨oc, od, dt, osl⟩ := o
    rw [lk] at c e
    cases dt with
    | func fd =>
      obtain ⟨n1, n2, n3, n4, n5, n6, n7, n8, n9, n10, n11, n12, n13, n14, n15⟩ := fd
      have e2 : (some (n1, n2, n3, n4, n5, n6, n8, n15) : FnO) = some (n, q, ps, .stmts b, sc, mainGlobals, .none, builtinsNs) := e
      simp only [Option.some.injEq, Prod.mk.injEq] at e2
      obtain ⟨h1, h2, h3, h4, h5, h6, h7, h8⟩ := e2
      subst h1 h2 h3 h4 h5 h6 h7 h8
      obtain ⟨c1, c2⟩ := He.ba c
      have k1 : ∀ x, n13 = .ref x → codeOf K a = x := fun x hx => by
        unfold codeOf
        rw [lk]
        subst hx
        rfl
      cases n13 with
      | ref cd =>
        rw [k1 cd rfl]
        match n7, c2, lk with
        | [(x, cc)], c2, lk =>
          have ex : x = "__class__" := of_decide_eq_true c2
          subst ex
          have k2 : cellOf K a = cc := by
            unfold cellOf
            rw [lk]
          rw [k2]
          exact ⟨oc, od, osl, n9, n10, n11, n12, n14, rfl, c1⟩
      | _ => cases c1
    | _ => cases c
/-! ### other things that a top has written -/
def cvalB (K : PySem.W.Frag) (C : Addr) (x : Str) (i : Int) : Bool := match PySem.W.findCls K (.ref C) (.type "type") x with
  | some (.val (.int j _)) => decide (j = i)
  | _ => false
theorem cval_ok {K : PySem.W.Frag} {C : Addr} {x : Str} {i : Int} (h : cvalB K C x i = true) : ∃ t, PySem.W.findCls K (.ref C) (.type "type") x = some (.val (.int i t)) := by
  unfold cvalB at h
  split at h
  · rename_i j t e
    exact ⟨t, by rw [e, of_decide_eq_true h]⟩
  · cases h
/-! ### a class of errors -/
def ecB (K : PySem.W.Frag) (C : Addr) : Bool := match K.lookup C with
  | some ⟨c, _, .cls ⟨_, _, .ref C' :: bm, _, _, hd, _, _, _, _, del⟩, ⟨[_, _, _, _, some nw, _]⟩⟩ => decide (c = .type "type") && (decide (C' = C) && (PySem.HandSPX.refsVE bm && (hd && (!del && decide (nw = .builtin "ValueError.__new__")))))
  | _ => false
theorem ec_ok {K : PySem.W.Frag} {C : Addr} (h : ecB K C = true) : ∃ nm q N bs bm sn sub ab col dd k0 k1 k2 k3 k5, K.lookup C = some (excClassObj nm q C N bs bm true sn sub ab col dd k0 k1 k2 k3 k5 "ValueError.__new__") ∧ PySem.HandSPX.refsVE bm = true := by
  unfold ecB at h
  split at h
  · rename_i c dd nm bs C' bm N q hd sn sub ab col del k0 k1 k2 k3 nw k5 e
    obtain ⟨h1, h⟩ := He.ba h
    obtain ⟨h2, h⟩ := He.ba h
    obtain ⟨h3, h⟩ := He.ba h
    obtain ⟨h4, h⟩ := He.ba h
    obtain ⟨h5, h6⟩ := He.ba h
    have e1 := of_decide_eq_true h1
    have e2 := of_decide_eq_true h2
    have e6 := of_decide_eq_true h6
    subst e1 e2 e6
    cases hd with
    | false => cases h4
    | true =>
      cases del with
      | true => cases h5
      | false => exact ⟨nm, q, N, bs, bm, sn, sub, ab, col, dd, k0, k1, k2, k3, k5, e, h3⟩
  · cases h
/-- the code object of a def knows the file -/
def fileB (K : PySem.W.Frag) (c : Addr) (file : Str) : Bool := match K.lookup c with
  | some ⟨_, _, .fields vs, _⟩ => (match (vs[2]? : Option Value) with
    | some (Value.str z _) => file == z
    | _ => false)
  | _ => false
theorem file_ok {K : PySem.W.Frag} {c : Addr} {file : Str} (h : fileB K c file = true) : ∃ ek ew ev er ef eg, K.lookup c = some ⟨ek, ew, .fields ev, er⟩ ∧ ev[2]? = some (.str ef eg) ∧ (file == ef) = true := by
  unfold fileB at h
  split at h
  · rename_i ek ew ev er e
    split at h
    · rename_i z t e2
      exact ⟨ek, ew, ev, er, z, t, e, e2, h⟩
    · cases h
  · cases h
def cellB (K : PySem.W.Frag) (c C : Addr) : Bool := match K.lookup c with
  | some ⟨_, _, .cell (some (.ref D)), _⟩ => decide (D = C)
  | _ => false
theorem cell_ok {K : PySem.W.Frag} {c C : Addr} (h : cellB K c C = true) : ∃ el eu eq, K.lookup c = some ⟨el, eu, .cell (some (.ref C)), eq⟩ := by
  unfold cellB at h
  split at h
  · rename_i el eu D eq e
    exact ⟨el, eu, eq, by rw [e, of_decide_eq_true h]⟩
  · cases h
/-! ### the Hook -/
abbrev AlB : Type := Bool × List FnO
def obsB (B : PySem.W.Frag → Bool) (fn : List FnX) (K : PySem.W.Frag) : AlB := (B K && fn.all fun d => okAt K (d.adr K) d.qual d.sup, fn.map fun d => obsAt K (d.adr K))
def valB (fn : List FnX) : AlB := (true, fn.map FnX.val)
def SaysB (B : PySem.W.Frag → Bool) (fn : List FnX) (K : PySem.W.Frag) : Prop := obsB B fn K = valB fn
def obsBG (as : (Addr → Option Obj) → List Addr) (B : PySem.W.Frag → Bool) (fn : List FnX) (g : Addr → Option Obj) : AlB := forceK g (as g) fun K => obsB B fn K
def hookB (as : (Addr → Option Obj) → List Addr) (B : PySem.W.Frag → Bool) (fn : List FnX) : PySem.W.Hook where
  α := AlB
  obs := fun s => obsBG as B fn s.heap.get?
  val := fun _ => valB fn
  says := fun _ h => ∃ K : PySem.W.Frag, K.In h ∧ SaysB B fn K
  of := fun _ _ e => ⟨_, He.frG_in, by rw [obsBG, forceK_eq] at e; exact e⟩
  keeps := fun _ _ _ ⟨K, hK, c⟩ k => ⟨K, PySem.W.Frag.In.keeps hK k, c⟩
theorem obsBG_eq {as : (Addr → Option Obj) → List Addr} {B : PySem.W.Frag → Bool} {fn : List FnX} {g : Addr → Option Obj} {s : Shared} (h : ∀ a, g a = s.heap.get? a) : obsBG as B fn g = (hookB as B fn).obs s := by
  have e : g = s.heap.get? := funext h
  rw [e] <;> rfl
section
variable {B : PySem.W.Frag → Bool} {fn : List FnX} {K : PySem.W.Frag}
theorem SaysB.bool (c : SaysB B fn K) : B K = true := (He.ba (show (B K && fn.all fun d => okAt K (d.adr K) d.qual d.sup) = true from congrArg (fun z : AlB => z.1) c)).1
theorem SaysB.def_ (c : SaysB B fn K) (i : Nat) {d : FnX} (h : fn[i]? = some d := by rfl) : obsAt K (d.adr K) = some (d.name, d.qual, d.params, .stmts d.body, d.scope, mainGlobals, .none, builtinsNs) ∧ okAt K (d.adr K) d.qual d.sup = true := by
  have c2 := (He.ba (show (B K && fn.all fun d => okAt K (d.adr K) d.qual d.sup) = true from congrArg (fun z : AlB => z.1) c)).2
  have e : fn.map (fun d => obsAt K (d.adr K)) = fn.map FnX.val := congrArg (fun z : AlB => z.2) c
  have e2 : (fn.map fun d => obsAt K (d.adr K))[i]? = (fn.map FnX.val)[i]? := by rw [e]
  rw [List.getElem?_map, List.getElem?_map, h] at e2
  exact ⟨Option.some.inj e2, List.all_eq_true.mp c2 d (List.mem_of_getElem? h)⟩
end
end Hd
/-! ## super().__init__(e) ahead of an own exception's stores -/
namespace SupX
open PySem PySem.Spec PyProof.Rows PySem.W L2
section
variable {prog : Program} {w : World} {A : Around} {E : Value → Shared → Prop} {h : Heap} {g : Array GenState} {d : Drawn} {t : Nat} {os : OsState}
variable {nm q : Str} {C N : Addr} {bs bm : List Value} {hdct : Bool} {sn : List Str} {sub : List Value} {ab : Bool} {col : Option Bool} {dd : Option Addr} {k0 k1 k2 k3 k5 : Option Value}
/-- the bound wrapper of ValueError.__init__ is called: the error's args are laid anew -/
theorem call_kw {u e t0 : Addr} {ws : List Value} {Q : Value → Shared → Prop} (oC : h.get? C = some (excClassObj nm q C N bs bm hdct sn sub ab col dd k0 k1 k2 k3 k5 "ValueError.__new__")) (oe : h.get? e = some (HandSPX.excO C t0))
    (ou : h.get? u = some (kxs_mw "ValueError.__init__" e)) (small : ws.length ≤ sizeLine) (k : ∀ h1 t1, (∀ b o, b ≠ e → h.get? b = some o → h1.get? b = some o) → h1.get? e = some (HandSPX.excO C t1) → Q .none ⟨h1, g, d, t, os⟩) :
    wpAny (model prog w) A (call (.ref u) ws) Q E ⟨h, g, d, t, os⟩ := by
  have FB := F.excBase_ValueError
  apply wpAny_call
  apply codeAny_of_tree
  change wpAny _ A.in1 (callAny (.ref u) ⟨ws, []⟩) _ _ _
  unfold callAny
  apply wpAny_bind
  apply wpAny_load ou
  have kind : (((kxs_mw "ValueError.__init__" e).cls == .type "method" || (kxs_mw "ValueError.__init__" e).cls == .type "builtin_function_or_method") || (kxs_mw "ValueError.__init__" e).cls == .type "method-wrapper") = true := by
    have z : (kxs_mw "ValueError.__init__" e).cls = .type "method-wrapper" := rfl
    rw [z]
    decide
  refine W.KFB.if_so kind (wpAny_bind (check_bound_init FB.toExcCallFacts oC oe rfl (wpAny_bind (wpAny_pure (wpAny_pure ?_)))))
  refine ⟨plainId_quiet FB.init.plain _, codeAny_builtin FB.initEntry ?_⟩
  exact exc_init_tree (cls := .ref C) (t0 := t0) (dv := none) (c2 := .none) (c3 := .none) (b4 := .bool false) oe small fun h1 k1 e1 _ => k h1 _ k1 e1
end
/-- a body's end, told as a call's end -/
theorem ce_of {X : Cx} (ex : X.ex = []) {Q : VK} : ∀ {fl : Flow} {s' : Shared}, SP X [] { nx := fun _ H' => Q .non H', rt := Q } fl s' → CR CX0 X.outer X.prog X.w X.H_0 X.s_0 Q E0 (.ok (.ret (match fl with | .ret v => v | _ => .none))) s'
  | .ret _, _, ⟨v, _, H1, J, r, k⟩ => ⟨v, H1, J.os, J.bare, ex ▸ J.base, J.hok, r, k⟩
  | .next, _, ⟨_, H1, J, k⟩ => ⟨.non, H1, J.os, J.bare, ex ▸ J.base, J.hok, rfl, k⟩
  | .brk, _, ⟨_, _, _, k⟩ => k.elim
  | .cont, _, ⟨_, _, _, k⟩ => k.elim
/-- what the written part says of an own exception's __init__ that begins with super().__init__ -/
structure SupC (P : Program) (K : PySem.W.Frag) (mg : Str → Option Value) (C : Addr) : Prop where
  T : OexC K C
  self : mroIn K C (.ref C) = some true
  noS : mg "super" = none
  top : (P.main.scope.names.lookup ("super" : Str)).isSome = false
  st : nsIn K cStatics "thirdparty.any" = some none
  al : ks_superIn K C C "__init__" = some (some (.builtin "ValueError.__init__"))
  vE : subIn K (.ref C) (.type "ValueError") = some true
section
variable {P : Program} {w : World} {K : PySem.W.Frag} {mg : Str → Option Value} {base : Heap} {CX : CXT} {k : Nat} {f cda cc C : Addr} {name qual : Str} {params : Arguments} {rest : List Stmt} {scope : Scope} {kV doc pm ct oc ccl cl : Value} {an od cdd cld : Option Addr} {osl ccs csl : Array (Option Value)}
  {vs0 : Array Value} {file : Str} {tf : Tok} {ps N : List Str} {sp : Sp} {p0 p1 p2 pos pos' : Pos} {arg : Expr} {ar : Arg}
abbrev nfOf (name qual : Str) (params : Arguments) (body : List Stmt) (scope : Scope) (cc cda : Addr) : NdefX.NF := ⟨name, qual, params, body, scope, [("__class__", cc)], cda⟩
theorem fn_sup (U : SupC P K mg C)
    (lk : K.lookup f = some ⟨oc, od, .func (ksFn name qual params (.Expr (.Call (.Attribute (.Call (.Name "super" p0) [] [] p1) "__init__" p2) [arg] [] pos) pos' :: rest) scope .none kV doc pm an (.ref cda) ct cc), osl⟩)
    (hcd : codeIn K (.ref cda) qual = true) (hcode : K.lookup cda = some ⟨ccl, cdd, .fields vs0, ccs⟩) (hvs : vs0[2]? = some (.str file tf)) (hfile : ((P.main.file : Str) == file) = true)
    (hcell : K.lookup cc = some ⟨cl, cld, .cell (some (.ref C)), csl⟩)
    (S : NdefX.NScope N ps ["__class__"] scope) (hks : scope.names.lookup ("super" : Str) = some .globalImplicit) (hp : (params.posonlyargs ++ params.args).head? = some ar) (hps : ps.head? = some ar.arg)
    (hev : ∀ env : Env, ∃ pl, eval (.Call (.Attribute (.Call (.Name "super" p0) [] [] p1) "__init__" p2) [arg] [] pos) env = (do
      let ov ← attributeBase (.Call (.Name "super" p0) [] [] p1) "__init__" env (eval (.Call (.Name "super" p0) [] [] p1) env)
      standAt p2.atName
      let (f, first) ← holding [ov] (getMethod ov "__init__" pl)
      callWith pos f first (backTo pos (starEach [arg] env)) []))
    (hse : ∀ env, starEach [arg] env = (false, eval arg env) :: starEach [] env) (hsw : ∀ env, swapsWith (.Call (.Attribute (.Call (.Name "super" p0) [] [] p1) "__init__" p2) [arg] [] pos) none pos'.line env = pure false)
    (len : ∀ vs H Q E, sp vs H Q E → vs.length = ps.length)
    (hbody : ∀ (A : Around) (outer : List Env) (s : Shared) (H : Hp) (vs : List V) (Q : VK) (E : XK), Room k (A.deeper (NdefX.envF (nfOf name qual params (.Expr (.Call (.Attribute (.Call (.Name "super" p0) [] [] p1) "__init__" p2) [arg] [] pos) pos' :: rest) scope cc cda) f s.heap.objs.size)) → sp vs H Q E →
      ∃ (a : Addr) (ta : TA) (t : TS), vs.head? = some (.ref a) ∧ H a = some (exo a C none) ∧
        PA (NdefX.ncx CX P w K mg base N (nfOf name qual params (.Expr (.Call (.Attribute (.Call (.Name "super" p0) [] [] p1) "__init__" p2) [arg] [] pos) pos' :: rest) scope cc cda) f A outer s H E) [arg] ta ∧
        PSs (NdefX.ncx CX P w K mg base N (nfOf name qual params (.Expr (.Call (.Attribute (.Call (.Name "super" p0) [] [] p1) "__init__" p2) [arg] [] pos) pos' :: rest) scope cc cda) f A outer s H E) rest t ∧
        ta (NdefX.startF N vs [none]) H (fun us H1 => us.length ≤ 1000 ∧ H1 a = some (exo a C none) ∧ t { nx := fun _ H' => Q .non H', rt := Q } (NdefX.startF N vs [none]) H1)) :
    FnOk P w K mg base CX (k + 1) f (ksFn name qual params (.Expr (.Call (.Attribute (.Call (.Name "super" p0) [] [] p1) "__init__" p2) [arg] [] pos) pos' :: rest) scope .none kV doc pm an (.ref cda) ct cc) ps sp := by
  constructor
  · exact len
  intro A outer s H args us vs Q E hr e0 hb r hsp
  have hl := len _ _ _ _ hsp
  have stays : ∀ b o, base.get? b = some o → s.heap.get? b = some o := fun b o e => (e0.bs b o e).1
  have KX := e0.mod.kin.keeps stays
  obtain ⟨a, ta, t, hva, hHa, hPA, hPS, hta⟩ := hbody A outer s H vs Q E (hr.deeper _) hsp
  refine ks_codeAny_call_defAt (fd := ksFn name qual params _ scope .none kV doc pm an (.ref cda) ct cc) (binds := ps.zip us) hr.depth (KX _ _ lk) rfl (e0.mod.nolimit.keeps stays) (codeRec_of KX hcd) rfl hb (fun y hy => S.nocell y hy) (fun y hy => S.par y.1 (List.of_mem_zip hy).1) (fun h₁ hns kp => ?_) S.co S.gen S.kind
  have hcl : ([("__class__", cc)] : List (Str × Addr)).lookup ("__class__" : Str) = some cc := by simp [List.lookup]
  have ccO : s.heap.get? cc = some ⟨cl, cld, .cell (some (.ref C)), csl⟩ := KX _ _ hcell
  have onlyc : ∀ y c, ([("__class__", cc)] : List (Str × Addr)).lookup y = some c → y = "__class__" ∧ c = cc := fun y c e => by
    by_cases hy : y = "__class__"
    · subst hy
      rw [hcl] at e
      exact ⟨rfl, (Option.some.inj e).symm⟩
    · have q : (y == ("__class__" : Str)) = false := by simpa using hy
      simp [List.lookup, q] at e
  have CA : NdefX.CellsAt [("__class__", cc)] ["__class__"] [none] s.heap H := {
    len := rfl
    all := fun y c e => by
      obtain ⟨_, rfl⟩ := onlyc y c e
      exact ⟨(e0.bs _ _ (e0.mod.kin _ _ hcell)).2, _, _, ccO, rfl⟩
    inj := fun x y c e1 e2 => by rw [(onlyc x c e1).1, (onlyc y c e2).1]
    has := fun i y e => by
      cases i with
      | zero =>
        cases e
        exact ⟨cc, hcl, fun v z => by cases z⟩
      | succ i => cases e }
  have I := NdefX.inv_startN (CX := CX) (F := nfOf name qual params (.Expr (.Call (.Attribute (.Call (.Name "super" p0) [] [] p1) "__init__" p2) [arg] [] pos) pos' :: rest) scope cc cda) (f := f) (E := E) (tk := s.toks + (ps.zip us).length) S hr.hd e0 hl r CA hns kp
  -- the object
  obtain ⟨u0, hu0, ru0⟩ : ∃ u0, us[0]? = some u0 ∧ RelV (.ref a) u0 := r.get (by rw [← List.head?_eq_getElem?]; exact hva)
  cases (show u0 = Value.ref a from ru0)
  have hself : (ps.zip us).reverse.lookup ar.arg = some (.ref a) := by
    have ndP : ps.Nodup := by
      have q := S.nd.sublist (List.take_sublist (ps.length + (["__class__"] : List Str).length) N)
      rw [S.pre] at q
      exact (List.nodup_append.mp q).1
    exact NdefX.zip_look (i := 0) ndP (by rw [← List.head?_eq_getElem?]; exact hps) hu0
  have hka : scope.names.lookup ar.arg = some .local := S.par _ (List.mem_of_getElem? (i := 0) (by rw [← List.head?_eq_getElem?]; exact hps))
  have hkc : scope.names.lookup ("__class__" : Str) = some .free := S.frk _ (by simp)
  have K1 : K.In h₁ := KX.keeps kp
  obtain ⟨nm, q, N', bs, bm, sn, sub, ab, col, dd, k0, k1, k2, k3, k5, hC, hbm⟩ := U.T.cls
  have hcd' : clsIn K C = some { name := nm, bases := bs, mro := .ref C :: bm, ns := N', qualname := q, hasDict := true, slotNames := sn, subclasses := sub, abstract := ab, collection := col, hasDel := false } := by unfold clsIn; rw [hC] <;> rfl
  obtain ⟨t1, ho⟩ := exo_at I.hok hHa
  obtain ⟨pl, hpl⟩ := hev (NdefX.envF (nfOf name qual params (.Expr (.Call (.Attribute (.Call (.Name "super" p0) [] [] p1) "__init__" p2) [arg] [] pos) pos' :: rest) scope cc cda) f s.heap.objs.size)
  refine ks_wpAt_execs_cons (ks_wpAt_Expr_any (ks_wpAt_MethodCall (pl := pl) ?_ hpl) (by show (scope.kind == .module && _) = false; rw [S.kind]; rfl) (hsw _))
  have oD : h₁.get? C = some (excClassObj nm q C N' bs bm true sn sub ab col dd k0 k1 k2 k3 k5 "ValueError.__new__") := K1 _ _ hC
  obtain ⟨mb, hb1, hb2⟩ := e0.mod.blt
  have bk : ∀ b o, base.get? b = some o → h₁.get? b = some o := fun b o e => kp b o (e0.bs b o e).1
  refine ks_wpAt_super_base (env := NdefX.envF (nfOf name qual params (.Expr (.Call (.Attribute (.Call (.Name "super" p0) [] [] p1) "__init__" p2) [arg] [] pos) pos' :: rest) scope cc cda) f s.heap.objs.size) hks hkc (by decide) rfl (K1 _ _ lk) rfl hp rfl (K1 _ _ hcode) rfl hvs hfile U.top ?_
  refine ks_loadName_global S.kind hks (Calls.loadGlobal_builtin (env := NdefX.envF (nfOf name qual params (.Expr (.Call (.Attribute (.Call (.Name "super" p0) [] [] p1) "__init__" p2) [arg] [] pos) pos' :: rest) scope cc cda) f s.heap.objs.size) (e0.mod.glob.keeps bk) U.noS (hb1.keeps bk) ((hb2 "super" (by decide)).trans (by decide +kernel : bootBuiltins "super" = some (.type "super"))) ⟨rfl, ?_⟩)
  refine wpAny_loadName_free S.kind hkc hcl ⟨_, K1 _ _ hcell, rfl⟩ ?_
  refine wpAny_loadName_local S.kind hka hns hself ?_
  refine ks_wpAny_isType_cls oD rfl ⟨rfl, ?_⟩
  refine ks_wpAny_call_super oD rfl ho rfl (fun c z => by cases z) (looks_mroIn K1 U.self) (fun h2 e2 k2 => ?_)
  have K2 : K.In h2 := K1.keeps k2
  have hx2 := k2 _ _ ho
  have Iat : InstAt h2 a { cls := .ref C, dict := none, data := .fields #[.ref t1, .none, .none, .none, .bool false, .none] } C none := ⟨hx2, rfl, rfl, trivial⟩
  have hal := U.al
  unfold ks_superIn at hal
  rw [hcd'] at hal
  have I2 := I.kept (h' := h2) (t' := s.toks + (ps.zip us).length + 1) k2
  refine kxs_getMethod kxs_ValueError e2 (looks_opaque K2 U.st) (l₀ := .ref C :: bm) (fun A Q E s k q => wpAny_bind ((looks_clsIn K2 hcd') A _ E s k (wpAny_pure q))) rfl K2 hal (Iat.type.andThen (looks_subIn K2 U.vE)) (ks_ne K2 Iat hcd') (by decide) ?_
  have I3 := I2.kept (h' := h2.push (kxs_mw "ValueError.__init__" a)) (t' := s.toks + (ps.zip us).length + 1) fun b o e => Heap.get?_push_of_some _ e
  have hu3 : (h2.push (kxs_mw "ValueError.__init__" a)).get? h2.objs.size = some (kxs_mw "ValueError.__init__" a) := Heap.get?_push_at rfl rfl
  have I4 := I3.pins_of (pins' := [(h2.objs.size, kxs_mw "ValueError.__init__" a)]) fun p hp => by
    rw [List.mem_singleton] at hp
    subst hp
    exact ⟨hu3, I2.hok.fresh (Nat.le_refl _), Nat.ne_of_gt I2.lt, I2.nofs (Nat.le_refl _), fun v z => by cases z⟩
  show wpAny _ _ (callWith pos (.ref h2.objs.size) [] (backTo pos (starEach [arg] (NdefX.envF (nfOf name qual params (.Expr (.Call (.Attribute (.Call (.Name "super" p0) [] [] p1) "__init__" p2) [arg] [] pos) pos' :: rest) scope cc cda) f s.heap.objs.size))) []) _ _ _
  have ev := hPA.run pos [(h2.objs.size, kxs_mw "ValueError.__init__" a)] _ _ H _ I4 hta
  rw [show (NdefX.ncx CX P w K mg base N (nfOf name qual params (.Expr (.Call (.Attribute (.Call (.Name "super" p0) [] [] p1) "__init__" p2) [arg] [] pos) pos' :: rest) scope cc cda) f A outer s H E).env = NdefX.envF (nfOf name qual params (.Expr (.Call (.Attribute (.Call (.Name "super" p0) [] [] p1) "__init__" p2) [arg] [] pos) pos' :: rest) scope cc cda) f s.heap.objs.size from rfl, hse] at ev
  rw [hse]
  refine kxs_callWith (i := "ValueError.__init__") (x := a) (by rfl) (Calls.evalArgs_plain (thn ev fun us1 s4 hh => ?_))
  obtain ⟨vs1, H1, J, r1, hlen, ha1, ht⟩ := hh
  have hu4 := (J.pin (h2.objs.size, kxs_mw "ValueError.__init__" a) (List.mem_append_right _ (by simp))).1
  refine ⟨hu4, ?_⟩
  obtain ⟨t2, ho4⟩ := exo_at J.hok ha1
  have hC4 := J.kIn _ _ hC
  obtain ⟨h4, g4, d4, t4, os4⟩ := s4
  show wpAny _ _ (call (.ref h2.objs.size) us1 []) _ _ _
  refine call_kw hC4 ho4 hu4 (by rw [← Paired.length r1, sizeLine_eq]; omega) fun h5 t5 k5 hx5 => ?_
  have J0 := J.pins_of (pins' := []) fun p hp => nomatch hp
  have J5 := J0.write (t' := t4) (x := a) (e := a) (o := exo a C none) (h' := h5) (by rw [ha1]; exact True.intro) (.inl rfl) k5 ⟨_, hx5⟩ (exo_ok hx5)
  have eu : upd H1 a (exo a C none) = H1 := by
    funext b
    by_cases hb : b = a
    · rw [hb, upd_same, ha1]
    · rw [upd_ne hb]
  rw [eu] at J5
  exact wpAt_of_wpAny (wpAny_mono (hPS.run [] _ _ H1 _ J5 ht) (fun fl s' hs => ce_of (X := NdefX.ncx CX P w K mg base N (nfOf name qual params (.Expr (.Call (.Attribute (.Call (.Name "super" p0) [] [] p1) "__init__" p2) [arg] [] pos) pos' :: rest) scope cc cda) f A outer s H E) rfl hs) fun e s' hs => hs)
end
end SupX
namespace Toy
open PySem PySem.Spec PyProof.Rows L2
/-! ### errors with one whole number -/
abbrev topE (i : Nat) : Stmt := PySem.Challenge.pw_murmurline_k14_people_refused.main.body.getD i (.Pass ⟨0, 0, 0, 0⟩)
theorem str_le {n : Nat} (h : n ≤ 100000) : n ≤ sizeLine := Nat.le_trans h (by decide)
theorem int_le {i : Int} (h : i.natAbs.log2 < 1920) : (PySem.Str.ofString (toString i)).length ≤ 1921 := int_text_len_1921 h
/-- what an error's text can show -/
def Pr (v : V) : Prop := (∃ i : Int, v = .int i ∧ i.natAbs.log2 < 1920) ∨ ∃ y : Str, v = .str y ∧ y.length ≤ 1921
theorem Pr.int {i : Int} (h : i.natAbs < 2 ^ 1000) : Pr (.int i) := .inl ⟨i, rfl, by
  by_cases z : i.natAbs = 0
  · rw [z]; decide
  · exact Nat.lt_trans ((Nat.log2_lt z).mpr h) (by decide)⟩
/-- C's __init__: the error at a gets its own dict with the fields -/
def spEr (C : Addr) (flds : List Str) : Sp := fun vs H Q _ => ∃ (a : Addr) (xs : List V), vs = .ref a :: xs ∧ xs.length = flds.length ∧ (∀ v ∈ xs, Pr v) ∧ H a = some (exo a C none) ∧
  ∀ H2 dx, H dx = none → dx ≠ a → (∀ b, b ≠ a → b ≠ dx → H2 b = H b) → H2 a = some (exo a C (some dx)) → H2 dx = some (exd dx (flds.zip xs).reverse) → Q .non H2
/-- what the written part says of an error's class -/
structure Er (P : Program) (K : PySem.W.Frag) (mg : Str → Option Value) (x : Str) (flds : List Str) (C : Addr) : Prop where
  T : OexC K C
  gC : mg x = some (.ref C)
  init : ∃ fI fd, PySem.W.findIn K (.ref C) "__init__" = some (some (.ref fI)) ∧ PySem.W.typeIn K (.ref fI) = some (.type "function") ∧ Binds K fd ("self" :: flds) [] ∧ ∀ (w : World) (base : Heap), FnOk P w K mg base CX0 1 fI fd ("self" :: flds) (spEr C flds)
theorem made_eq {H H2 : Hp} {a d : Addr} {o : HO} (ha : H a = none) (h2 : ∀ b, b ≠ a → b ≠ d → H2 b = upd H a o b) (fs : List (Str × V)) : upd (del H2 a) d (.xd fs) = upd H d (.xd fs) := by
  funext b
  by_cases hb : b = d
  · rw [hb, upd_same, upd_same]
  · rw [upd_ne hb, upd_ne hb]
    by_cases hba : b = a
    · rw [hba, del_same, ha]
    · rw [del_ne hba, h2 b hba hb, upd_ne hba]
/-- C(..) is made -/
def tMkEr (C : Addr) (flds : List Str) (ta : TA) : L2.St → Hp → XK → Prop := fun σ H Q => ta σ H fun vs H1 => vs.length = flds.length ∧ (∀ v ∈ vs, Pr v) ∧ ∀ d, H1 d = none → Q (.ref C) (some d) (upd H1 d (.xd (flds.zip vs).reverse))
theorem pmk_er {X : Cx} {x : Str} {flds : List Str} {C : Addr} {e : Expr} {es : List Expr} {ta : TA} {p pos : Pos} (R : Er X.prog X.K X.mg x flds C) (hr : Room 2 X.A) (ha : PA X (e :: es) ta) (hfl : flds.length ≤ 1000) (hg : Gl X x)
    (hdb : (x == ("__debug__" : Str)) = false) (he : starEach (e :: es) X.env = (false, eval e X.env) :: starEach es X.env) (hpl : (backTo pos (starEach es X.env)).any (·.1) = false) :
    L2N.PMk X (.Call (.Name x p) (e :: es) [] pos) (tMkEr C flds ta) := by
  have ⟨fI, fd, iC, tI, hb, F⟩ := R.init
  have ⟨nm, q0, N, bs, bm, sn, sub, ab, col, dd, k0, k1, k2, k3, k5, hC, hbm⟩ := R.T.cls
  intro pins s σ H Q I h
  refine wpAny_Call_Name_kw (ld_glob I hg R.gC ?_ hdb)
  refine PySem.W.callWith_K (h₀ := X.base) I.ok.mod.kin R.T.kC (thn (ha.run pos pins s σ H _ I h) fun us s1 hh => ?_) he hpl
  have ⟨vs, H1, I1, r1, hl, hp, q⟩ := hh
  refine ⟨I1.kIn, ?_⟩
  change wpAny _ _ (call (.ref C) us) _ _ _
  obtain ⟨h1, g, dr, tk, os⟩ := s1
  -- the error's object e behind its args
  have big : h1.objs.size ≤ h1.objs.size + 1 := Nat.le_succ _
  generalize ee : h1.objs.size + 1 = e1 at big
  have none1 : H1 e1 = none := I1.hok.fresh big
  have keep : ∀ b o, h1.get? b = some o → ((h1.push (PySem.W.kdv_tup us)).push (PySem.HandSPX.excO C h1.objs.size)).get? b = some o := fun b o z => Heap.get?_push_of_some _ (Heap.get?_push_of_some _ z)
  have there : ((h1.push (PySem.W.kdv_tup us)).push (PySem.HandSPX.excO C h1.objs.size)).get? e1 = some (PySem.HandSPX.excO C h1.objs.size) := by rw [← ee]; heap_get
  have I2 : Inv X pins σ (upd H1 e1 (exo e1 C none)) ⟨(h1.push (PySem.W.kdv_tup us)).push (PySem.HandSPX.excO C h1.objs.size), g, dr, tk, os⟩ := I1.laid (t' := tk) keep big (exo_ok there)
  have few : us.length ≤ sizeLine := by
    have z := Paired.length r1
    rw [← z, sizeLine_eq]
    omega
  have want : spEr C flds (.ref e1 :: vs) (upd H1 e1 (exo e1 C none)) (fun v H2 => v = .non ∧ ∃ (d : Addr) (fs : List (Str × V)), H2 e1 = some (exo e1 C (some d)) ∧ H2 d = some (exd d fs) ∧ H1 d = none ∧ Q (.ref C) (some d) (upd (del H2 e1) d (.xd fs))) E0 :=
    ⟨e1, vs, rfl, hl, hp, upd_same, fun H2 dx hdx hne h2 ea ed => by
      rw [upd_ne hne] at hdx
      refine ⟨rfl, dx, _, ea, ed, hdx, ?_⟩
      rw [made_eq none1 h2]
      exact q dx hdx⟩
  have vals : Vals (V.ref e1 :: vs) (Value.ref e1 :: us) := .cons rfl r1
  have binds := hb ⟨(h1.push (PySem.W.kdv_tup us)).push (PySem.HandSPX.excO C h1.objs.size), g, dr, tk, os⟩ (Value.ref e1 :: us) I2.kIn (by rw [List.append_nil, ← vals.length, (F X.w X.base).len _ _ _ _ want])
  rw [List.append_nil] at binds
  have run := (F X.w X.base).run (X.A.under (.builtin "type.__call__" ⟨.ref C :: us, []⟩)) X.stack ⟨(h1.push (PySem.W.kdv_tup us)).push (PySem.HandSPX.excO C h1.objs.size), g, dr, tk, os⟩ _ ⟨Value.ref e1 :: us, []⟩ _ _ _ E0 (hr.make C us []) (I2.env0.make C us []) binds vals want
  refine wpAny_call (PySem.HandSPX.call_own PySem.F.excBase_ValueError (fun Y => PySem.HandSPX.refsVE_contains Y bm hbm) (I1.kIn _ _ hC) (PySem.W.looks_findIn I1.kIn iC) (fun self => PySem.W.bind_fn I1.kIn self tI) few ?_)
  rw [ee]
  refine codeAny_mono run fun r s' out => ?_
  match r, out with
  | .ok (.ret u), ⟨v, H2, o2, b2, u2, ok2, rv, ev, d, fs, ea, ed, n1, qq⟩ =>
    subst ev
    have ⟨t0, G, J, kG, ge, ho, na⟩ := mk_end0 (d2 := s'.drawn) (t2 := s'.toks) I1 big keep u2 ok2 o2 b2 ea ed n1
    exact ⟨rv, e1, _, _, _, _, .ref C, some d, rfl, J, kG, ge, ho, ⟨rfl, rfl, fun ws e => by cases e; rfl⟩, rfl, rfl, na, rfl, b2, raises_own R.T.exC R.T.tyC, qq⟩
def tRaiseEr (C : Addr) (flds : List Str) (W : WX) (ta : TA) : TS := fun _ σ H => tMkEr C flds ta σ H fun cls d H' => W cls d σ H'
theorem ps_raiseEr {X : Cx} {W : WX} {x : Str} {flds : List Str} {C : Addr} {e : Expr} {es : List Expr} {ta : TA} {p pos pos2 : Pos} (hc : X.calm = true) (R : Er X.prog X.K X.mg x flds C) (hr : Room 2 X.A) (tk : L2N.Takes X W) (ha : PA X (e :: es) ta) (hfl : flds.length ≤ 1000 := by decide) (hg : Gl X x := by rfl)
    (db : (x == ("__debug__" : Str)) = false := by decide) (he : starEach (e :: es) X.env = (false, eval e X.env) :: starEach es X.env := by rfl) (hpl : (backTo pos (starEach es X.env)).any (·.1) = false := by rfl) :
    PS X (.Raise (some (.Call (.Name x p) (e :: es) [] pos)) none pos2) (tRaiseEr C flds W ta) := L2N.ps_raise hc tk (pmk_er R hr ha hfl hg db he hpl)
/-! ### the texts -/
/-- what the written part says of an error's __init__ -/
structure ErT (P : Program) (K : PySem.W.Frag) (mg : Str → Option Value) (C : Addr) (qual : Str) (st : Stmt) (f : Addr) (fd : FuncData) : Prop where
  U : SupX.SupC P K mg C
  ex : ∃ (oc ccl cl : Value) (od cdd cld an : Option Addr) (osl ccs csl : Array (Option Value)) (cda cc : Addr) (kV doc pm ct : Value) (vs0 : Array Value) (file : Str) (tf : Tok),
    fd = PySem.W.ksFn "__init__" qual (defArgs st) (defBody st) (defScope st) .none kV doc pm an (.ref cda) ct cc ∧ K.lookup f = some ⟨oc, od, .func fd, osl⟩ ∧ PySem.W.codeIn K (.ref cda) qual = true ∧
      K.lookup cda = some ⟨ccl, cdd, .fields vs0, ccs⟩ ∧ vs0[2]? = some (.str file tf) ∧ ((P.main.file : Str) == file) = true ∧ K.lookup cc = some ⟨cl, cld, .cell (some (.ref C)), csl⟩
  iC : PySem.W.findIn K (.ref C) "__init__" = some (some (.ref f))
  tI : PySem.W.typeIn K (.ref f) = some (.type "function")
theorem cat_le {x y : Str} {m n k : Nat} (hx : x.length ≤ m) (hy : y.length ≤ n) (h : m + n ≤ k) : (x ++ y).length ≤ k := by
  rw [Str.length_append]
  omega
section
variable {P : Program} {w : World} {K : PySem.W.Frag} {mg : Str → Option Value} {base : Heap}
abbrev sBadPerson : Stmt := topE 8
abbrev sBadPersonI : Stmt := inClass sBadPerson 0
theorem scBadPersonI : NdefX.NScope ["self", "part", "__class__"] ["self", "part"] ["__class__"] (defScope sBadPersonI) := NdefX.nscope_by (by decide +kernel)
theorem ok_BadPersonI {f C : Addr} {fd : FuncData} (F : ErT P K mg C "BadPerson.__init__" sBadPersonI f fd) (hno0 : PySem.W.findIn K (.ref C) "part" = some none) : FnOk P w K mg base CX0 1 f fd ["self", "part"] (spEr C ["part"]) := by
  obtain ⟨oc, ccl, cl, od, cdd, cld, an, osl, ccs, csl, cda, cc, kV, doc, pm, ct, vs0, file, tf, rfl, lk, hcd, hcode, hvs, hfile, hcell⟩ := F.ex
  refine SupX.fn_sup F.U lk hcd hcode hvs hfile hcell scBadPersonI rfl rfl rfl (fun env => ⟨_, rfl⟩) (fun env => rfl) (fun env => rfl) (fun vs H Q E h => ?_) (fun A outer s H vs Q E hr h => ?_)
  · obtain ⟨a, xs, rfl, hl, _⟩ := h
    show xs.length + 1 = _
    rw [hl]
    rfl
  · obtain ⟨a, xs, rfl, hl, hp, ha, q⟩ := h
    match xs, hl with
    | [x0], _ =>
      refine ⟨a, _, _, rfl, ha, pa_cons (pe_joined (.cons pe_str (.cons (pe_fmt (pv 1)) (.cons pe_str .nil)))) pa_nil, (pss_one (ps_ost (pv 0) (pv 1))), ?_⟩
      rcases hp x0 (by simp) with ⟨i0, rfl, h0⟩ | ⟨y0, rfl, h0⟩
      ·
        refine ⟨_, rfl, ?_, ⟨_, rfl, .inr ⟨i0, rfl, h0, _, rfl, ?_, ⟨_, rfl, ?_, ?_⟩⟩⟩⟩
        · exact Nat.le_trans (cat_le (k := 200) (show (Str.empty).length ≤ 0 from Nat.le_refl _) (show Str.length _ ≤ 200 by decide) (by decide)) (by decide)
        · exact Nat.le_trans (cat_le (k := 2121) (cat_le (k := 200) (show (Str.empty).length ≤ 0 from Nat.le_refl _) (show Str.length _ ≤ 200 by decide) (by decide)) (int_le h0) (by decide)) (by decide)
        · exact Nat.le_trans (cat_le (k := 2321) (cat_le (k := 2121) (cat_le (k := 200) (show (Str.empty).length ≤ 0 from Nat.le_refl _) (show Str.length _ ≤ 200 by decide) (by decide)) (int_le h0) (by decide)) (show Str.length _ ≤ 200 by decide) (by decide)) (by decide)
        · exact ⟨by show 1 ≤ 1000; decide, ha, _, rfl, _, rfl, a, C, rfl, F.U.T, hno0, .inl ⟨ha, fun dx h1 h2 => q _ dx h1 h2 (fun b n1 n2 => by rw [upd_ne n1, upd_ne n2]) upd_same (by rw [upd_ne h2, upd_same]; rfl)⟩⟩
      ·
        refine ⟨_, rfl, ?_, ⟨_, rfl, .inl ⟨y0, rfl, str_le (Nat.le_trans h0 (by decide)), _, rfl, ?_, ⟨_, rfl, ?_, ?_⟩⟩⟩⟩
        · exact Nat.le_trans (cat_le (k := 200) (show (Str.empty).length ≤ 0 from Nat.le_refl _) (show Str.length _ ≤ 200 by decide) (by decide)) (by decide)
        · exact Nat.le_trans (cat_le (k := 2121) (cat_le (k := 200) (show (Str.empty).length ≤ 0 from Nat.le_refl _) (show Str.length _ ≤ 200 by decide) (by decide)) h0 (by decide)) (by decide)
        · exact Nat.le_trans (cat_le (k := 2321) (cat_le (k := 2121) (cat_le (k := 200) (show (Str.empty).length ≤ 0 from Nat.le_refl _) (show Str.length _ ≤ 200 by decide) (by decide)) h0 (by decide)) (show Str.length _ ≤ 200 by decide) (by decide)) (by decide)
        · exact ⟨by show 1 ≤ 1000; decide, ha, _, rfl, _, rfl, a, C, rfl, F.U.T, hno0, .inl ⟨ha, fun dx h1 h2 => q _ dx h1 h2 (fun b n1 n2 => by rw [upd_ne n1, upd_ne n2]) upd_same (by rw [upd_ne h2, upd_same]; rfl)⟩⟩
end
end Toy
/-! ## try with several clauses «except C as n», the caught error's context being None -/
namespace L2N
open PySem PySem.Spec PyProof.Rows L2
abbrev Clauses := List (Value × (Addr → Value → Option Addr → TS))
/-- behind a suite the name is gone -/
def endsGone (D : Ends) (i : Nat) : Ends := { nx := fun σ H => D.nx (σ.set i none) H, bk := fun σ H => D.bk (σ.set i none) H, ct := fun σ H => D.ct (σ.set i none) H, rt := D.rt }
/-- what is wished of an error that the clauses l look at -/
def wClauses (K : PySem.W.Frag) (i : Nat) (Wout : WX) (D : Ends) : Clauses → WX
  | [] => Wout
  | p :: r => fun cls d σ H => ∃ b, PySem.W.exmOne K cls p.1 = some b ∧ (if b = true then ∀ a, H a = none → p.2 a cls d (endsGone D i) (σ.set i (some (.ref a))) H else wClauses K i Wout D r cls d σ H)
/-- the clauses of the text, each with the reading of its suite -/
inductive Reads (X : Cx) (n : Str) : List ExceptHandler → Clauses → Prop where
  | nil : Reads X n [] []
  | cons {x : Str} {c : Value} {ts : Addr → Value → Option Addr → TS} {s0 : Stmt} {ss : List Stmt} {q q' : Pos} {hs : List ExceptHandler} {l : Clauses} (named : Names X x c)
      (suite : ∀ (a : Addr) (oe : Obj) (cls : Value) (d : Option Addr) (pn : List (Addr × Obj)), Zn cls d oe → (∃ vs, oe.data = .fields vs) → PSs (X.suite a ((a, oe) :: pn)) (s0 :: ss) (ts a cls d)) (more : Reads X n hs l) :
      Reads X n (.ExceptHandler (some (.Name x q)) (some n) (s0 :: ss) q' :: hs) ((c, ts) :: l)
/-- an error on the ground of X -/
structure Down (X : Cx) (pins : List (Addr × Obj)) (σ : L2.St) (H : Hp) (cls : Value) (d : Option Addr) (a : Addr) (B : Heap) (sI s : Shared) : Prop where
  inv : Inv X pins σ H sI
  back : ∀ b o, sI.heap.get? b = some o → b ∉ frs X.stack → B.get? b = some o
  up : sI.heap.UpToSlots s.heap
  fly : HandSPX.FlyingZ B (X.env :: X.outer) a (Zn cls d) s.heap
  new : H a = none
  os : s.os = sI.os
  bare : AllBare s.gens
section
variable {X : Cx} {pins : List (Addr × Obj)} {σ : L2.St} {H : Hp} {cls : Value} {d : Option Addr} {a : Addr} {B : Heap} {sI s : Shared}
theorem Down.now (z : Down X pins σ H cls d a B sI s) : Inv X pins σ H s := z.inv.landed z.back z.fly.1 z.up z.os z.bare
/-- its object stands outside of what is tracked, outside of the frames -/
theorem Down.kept (z : Down X pins σ H cls d a B sI s) (hf : X.env.frame = some X.env.locals) : ∃ (oe : Obj) (vs : Array Value), s.heap.get? a = some oe ∧ Zn cls d oe ∧ oe.data = .fields vs ∧ Inv (X.suite a ((a, oe) :: (X.pn ++ pins))) [] σ H s := by
  have ⟨oe, vs, h1, h2, h3⟩ := z.fly.there
  have out : a ∉ frs (X.env :: X.outer) := fun m => by
    have ⟨_, o, e, no⟩ := z.fly.2.2.1.mem m
    exact no vs ((Option.some.inj (h1.symm.trans e)) ▸ h3)
  have loc : X.env.locals ∈ frs (X.env :: X.outer) := List.mem_filterMap.mpr ⟨X.env, by simp, hf⟩
  have sub : ∀ b, b ∈ X.fs → b ∈ frs (X.env :: X.outer) := fun b m => by
    have ⟨e, m1, m2⟩ := List.mem_filterMap.mp m
    exact List.mem_filterMap.mpr ⟨e, by simp [m1], m2⟩
  exact ⟨oe, vs, h1, h2, h3, z.now.suite h1 h3 z.new (fun e => out (e ▸ loc)) (fun m => out (sub _ m))⟩
/-- no clause is left: on it goes -/
theorem Down.past {Wout : WX} {D : Ends} (z : Down X pins σ H cls d a B sI s) (hs : X.stack = X.env :: X.outer) (hf : X.env.frame = some X.env.locals) (tk : Takes X Wout) (w : Wout cls d σ H) :
    wpAny (model X.prog X.w) X.A (handleBy (.ref a) X.env []) (SP X pins D) X.xe s := by
  apply wpAny_handleBy_nil
  have ⟨_, _, _, oe, vs, T, _, _, h1, _, h3, h4, _⟩ := z.fly
  unfold PySem.passOn
  apply wpAny_bind
  refine wpAny_field h1 h3 h4 ?_
  have no : ¬ ((Value.ref T == Value.none) = true) := by simp
  rw [if_neg no]
  have goes : wpAny (model X.prog X.w) X.A (setFlight (.ref a) X.env.frame) (fun _ s4 => wpAny (model X.prog X.w) X.A (throw (.ref a) : Sem Flow) (SP X pins D) X.xe s4) X.xe s := by
    rw [hf]
    refine HandSPX.setFlight_upZ z.fly fun h4 held more => wpAny_throw (tk _ _ ?_)
    refine ⟨a, B, sI, pins, σ, H, cls, d, rfl, z.inv, z.back, z.up.trans more, .inr (.inr ?_), z.new, z.os, z.bare, w⟩
    rw [hs]
    exact held
  first
    | exact wpAny_bind goes
    | exact wpAny_bind (wpAny_pure (wpAny_bind goes))
/-- a clause's class is looked up -/
theorem named_at {x : Str} {c : Value} {q : Pos} {oe : Obj} {Q E : Value → Shared → Prop} (S : Inv (X.suite a ((a, oe) :: (X.pn ++ pins))) [] σ H s) (hn : Names X x c) (k : Q c s) : wpAny (model X.prog X.w) (X.A.mark (some (.ref a))) (eval (.Name x q) X.env) Q E s := by
  rcases hn with ⟨g, db, m | ⟨m, bt, nn⟩⟩
  · exact ld_glob (X := X.suite a ((a, oe) :: (X.pn ++ pins))) S g m k db
  · exact ld_blt (X := X.suite a ((a, oe) :: (X.pn ++ pins))) S g m bt k nn db
theorem Down.handle {n : Str} {i : Nat} {Wout : WX} {D : Ends} (hs : X.stack = X.env :: X.outer) (hf : X.env.frame = some X.env.locals) (hN : X.N.Nodup) (hi : X.N[i]? = some n) (hln : X.env.kindOf n = some .local) (tk : Takes X Wout) {hds : List ExceptHandler} {l : Clauses}
    (R : Reads X n hds l) : ∀ s, Down X pins σ H cls d a B sI s → wClauses X.K i Wout D l cls d σ H → wpAny (model X.prog X.w) X.A (handleBy (.ref a) X.env hds) (SP X pins D) X.xe s := by
  induction R with
  | nil => exact fun s z w => z.past hs hf tk w
  | @cons x c ts s0 ss q q' hs' l' named suite more ih =>
    intro s z ⟨b, yes, w⟩
    have ⟨oe, vs, h1, h2, h3, S⟩ := z.kept hf
    have ty : PySem.W.Looks (model X.prog X.w) s.heap (typeOf (.ref a)) cls := fun _ _ _ _ k q => wpAny_typeOf_ref (k _ _ h1) (h2.1 ▸ q)
    have lk := PySem.W.exm_one (M := model X.prog X.w) z.now.kIn ty yes
    refine wpAny_handleBy_cons (codeAny_handlers_test (named_at S named (lk.here ?_))) (fun e => by cases e)
    cases b with
    | false => exact ih s z w
    | true =>
      refine codeAny_handlers_suite_as (HandSPX.lands_againZ z.fly fun h4 fly up => ?_)
      have z4 : Down X pins σ H cls d a B sI { s with heap := h4 } := ⟨z.inv, z.back, z.up.trans up, fly, z.new, z.os, z.bare⟩
      have ⟨oe4, vs4, _, g2, g3, S4⟩ := z4.kept hf
      refine store_ok (X := X.suite a ((a, oe4) :: (X.pn ++ pins))) (v := .ref a) S4 hN hi (.inl hln) rfl (fun s5 S5 => ?_) (.inr hln)
      have run := (suite a oe4 cls d (X.pn ++ pins) g2 ⟨_, g3⟩).run [] s5 _ H _ S5 (w a z.new)
      refine wpAny_mono run (fun f s6 out => ?_) fun _ _ no => no.elim
      have gone : ∀ {σ6 : L2.St} {H6 : Hp} {Q : Shared → Prop}, Inv (X.suite a ((a, oe4) :: (X.pn ++ pins))) [] σ6 H6 s6 → (∀ s7, Inv X pins (σ6.set i none) H6 s7 → Q s7) → wpAny (model X.prog X.w) X.A (do bindName X.env n .none; unbindBehindTheSuite X.env n q') (fun _ s7 => Q s7) X.xe s6 :=
        fun S6 k => gone_ok (S6.unsuite z.inv.ok) hN hi hln k
      match f, out with
      | .next, ⟨_, _, S6, k⟩ => exact gone S6 fun s7 J => ⟨_, _, J, k⟩
      | .brk, ⟨_, _, S6, k⟩ => exact gone S6 fun s7 J => ⟨_, _, J, k⟩
      | .cont, ⟨_, _, S6, k⟩ => exact gone S6 fun s7 J => ⟨_, _, J, k⟩
      | .ret _, ⟨_, _, _, S6, r, k⟩ => exact gone S6 fun s7 J => ⟨_, _, _, J, r, k⟩
/-- the statement -/
theorem ps_try_clauses {n : Str} {i : Nat} {Wout : WX} {body : List Stmt} {h0 : ExceptHandler} {hds : List ExceptHandler} {l : Clauses} {pos : Pos} {tb : WX → TS} (hs : X.stack = X.env :: X.outer) (hf : X.env.frame = some X.env.locals) (hN : X.N.Nodup) (hi : X.N[i]? = some n) (hln : X.env.kindOf n = some .local)
    (tk : Takes X Wout) (hb : ∀ (W : WX) (pn : List (Addr × Obj)) (xe : Value → Shared → Prop), Takes (X.tr pn xe) W → PassesOwn (model X.prog X.w) X.A X.env xe → PSs (X.tr pn xe) body (tb W)) (R : Reads X n (h0 :: hds) l) :
    PS X (.Try body (h0 :: hds) [] [] pos) (fun D σ H => tb (wClauses X.K i Wout D l) D σ H) := by
  constructor
  intro pins s σ H D I h
  have fr : X.A.frames = some (X.env :: X.outer) := I.ok.frames.trans (by rw [hs])
  apply wpAny_Try_except
  have run := (hb (wClauses X.K i Wout D l) (X.pn ++ pins) (fun e s1 => wpAny (model X.prog X.w) X.A (noteFrame e X.env) (fun _ s2 => wpAny (model X.prog X.w) X.A (setFlight e none) (fun _ s3 => wpAny (model X.prog X.w) X.A (handleBy e X.env (h0 :: hds)) (SP X pins D) X.xe s3) X.xe s2) X.xe s1) (fun u s' c => by
    have ⟨a, B, sI, _, σ', H', cls, d, eu, J, nb, up, sky, na, os, ag, w⟩ := c
    subst eu
    rw [show (X.tr (X.pn ++ pins) _).stack = X.stack from rfl, hs] at sky
    refine Sky.land Zn.steady fr hf sky fun h3 fl more => ?_
    exact Down.handle hs hf hN hi hln tk R _ ⟨J.ofTry I.ok, nb, up.trans more, fl, na, os, ag⟩ w) PassesOwn.looking).run [] s σ H D (I.toTry _) h
  refine wpAny_mono run (fun f s1 out => ?_) fun _ _ z => z
  match f, out with
  | .next, ⟨_, _, J, k⟩ => exact wpAny_execs_nil ⟨_, _, J.ofTry I.ok, k⟩
  | .brk, ⟨_, _, J, k⟩ => exact ⟨_, _, J.ofTry I.ok, k⟩
  | .cont, ⟨_, _, J, k⟩ => exact ⟨_, _, J.ofTry I.ok, k⟩
  | .ret _, ⟨_, _, _, J, r, k⟩ => exact ⟨_, _, _, J.ofTry I.ok, r, k⟩
end
end L2N
/-! ## a list walked by a comprehension while an error is handled -/
namespace HotX2
open PySem PySem.Spec PyProof.Rows HotX
section
variable {prog : Program} {w : World} {A : Around} {E : Value → Shared → Prop} {s : Shared}
/-- the iterator at it is at its end: StopIteration is made (its context the handled error), and met -/
theorem list_ends {it l x1 : Addr} {i : Nat} {vals : Array Value} {Q : Option Value → Shared → Prop} (hot : HotAt A x1 s.heap) (ne : x1 ≠ it) (isIt : s.heap.IsListIter it l i) (isL : s.heap.IsList l vals) (past : vals[i]? = none)
    (k : ∀ h1, Heap.ExtBut it s.heap h1 → Q none { s with heap := h1 }) : wpAny (model prog w) A (pyNext (.ref it)) Q E s := by
  have ⟨hh, o1, ws, g1, e1, n1⟩ := hot
  have ty := isIt.typeIs
  have ⟨oi, gi, ci, di⟩ := isIt
  have ⟨ol, gl, _, nl, dl⟩ := isL
  have same1 : ∀ f, (s.heap.update it f).get? x1 = some o1 := fun f => (Heap.get?_update_ne _ _ _ _ ne).trans g1
  have sameB : ∀ f b o, b ≠ it → s.heap.get? b = some o → (s.heap.update it f).get? b = some o := fun f b o nb g => (Heap.get?_update_ne _ _ _ _ nb).trans g
  have noN : ¬ ((Value.ref l == Value.none) = true) := Bool.false_ne_true
  unfold pyNext
  apply wpAny_bind; apply wpAny_attempt
  refine wpAny_callSpecial?_slot (name := Str.ofString "__next__") ty slot_listiter_next (wpAny_call_entry slot_listiter_next ty entry_listiter_next ?_ (args_listiter_next _))
  change wpAny _ _ (field (.ref it) 0 >>= _) _ _ s
  refine wpAny_bind (wpAny_field (x := .ref l) gi di rfl ?_)
  change wpAny _ _ (ite ((Value.ref l == Value.none) = true) _ _) _ _ s
  rw [if_neg noN]
  change wpAny _ _ (field (.ref it) 1 >>= _) _ _ s
  refine wpAny_bind (wpAny_field (x := .int i 0) gi di rfl ?_)
  change wpAny _ _ (seqItems? (.ref l) >>= _) _ _ s
  refine wpAny_bind (wpAny_seqItems gl dl ?_)
  simp only [Int.toNat_natCast, past]
  refine wpAny_bind (wpAny_rule (wpAny_bind (wpAny_setField gi di (by simp) ?_)))
  change wpAny _ _ (newExc (.type "StopIteration") [] >>= _) _ _ _
  apply wpAny_bind
  simp only [newExc, newTuple]
  refine wpAny_bind (wpAny_newObj_type (wpAny_bind (m := firstArgMember _ _) (wpAny_of_eq (a := Value.none) (by first | rfl | (simp only [firstArgMember]; rfl)) (wpAny_newObj_type ?_ (by size_fits)))) (by size_fits))
  have up2 : ∀ {h1 : Heap} {b : Addr} {o x y : Obj}, h1.get? b = some o → ((h1.push x).push y).get? b = some o := fun e => Heap.get?_push_of_some _ (Heap.get?_push_of_some _ e)
  have lt2 : ∀ {h1 : Heap} {b : Addr} {o x : Obj}, h1.get? b = some o → b < (h1.push x).objs.size := fun e => Heap.lt_size (Heap.get?_push_of_some _ e)
  refine raiseNew_hot (x1 := x1) ⟨hh, o1, ws, up2 (same1 _), e1, n1⟩ (Nat.ne_of_lt (lt2 (same1 _))) (Heap.get?_push_size _ rfl) rfl (by first | (simp; done) | (simp; omega) | (simp only [Array.size_append]; simp; omega)) (wpAny_bind ?_)
  refine wpAny_isInstance (T := "StopIteration") (b := true) ⟨_, Heap.get?_update_self _ (Heap.get?_push_size _ rfl) rfl, rfl⟩ isSubtype_stop (wpAny_pure (k _ fun b o nb g => ?_))
  exact (Heap.get?_update_other _ _ (Nat.ne_of_gt (lt2 (sameB _ b o nb g)))).trans (up2 (sameB _ b o nb g))
end
end HotX2

namespace L2
open PySem PySem.Spec PyProof.Rows
section
variable {X : Cx} {pins : List (Addr × Obj)} {σ : St} {H : Hp} {s : Shared}
theorem fpOk_turned (I : Inv X pins σ H s) {it : Addr} (f : FpOk X pins H it) {h1 : Heap} (k : ∀ b o, b ≠ it → s.heap.get? b = some o → h1.get? b = some o) : Inv X pins σ H { s with heap := h1 } :=
  I.turned (t' := s.toks) (fun b o nb g => k b o nb g) f.1 f.2.1 f.2.2.2.1 f.2.2.2.2.1 f.2.2.2.2.2
theorem pe_lcH {elt tg iter : Expr} {ifs : List Expr} {scope : Scope} {own : List (Str × Nat)} {pos : Pos} {tl : TE} {g : TG} {tt : TT} {te : TE} (hot : L2H.HotC X) (hN : X.N.Nodup) (il : PE X iter tl) (ok : BlkOk X.N X.env.scope scope own)
    (hg : ∀ s H C cl fp, PG (X.blk s H scope (compEnvC scope cl C X.env) fp) tg g) (ht : ∀ s H C cl fp, PTs (X.blk s H scope (compEnvC scope cl C X.env) fp) ifs tt)
    (he : ∀ s H C cl fp, PE (X.blk s H scope (compEnvC scope cl C X.env) fp) elt te) (hs : ∀ x, foldedSetIterable iter X.env x = pure x := by intro _; rfl) :
    PE X (.ListComp elt [⟨tg, iter, ifs, 0⟩] scope pos) (tLc (iList X.K tl) g tt te (own.map (·.2))) := by
  constructor
  intro pins s σ H Q I h
  have ⟨p, ⟨hh, ws, pd, pc⟩, pm⟩ := hot
  have free : ∀ y ∈ scope.names, y.2 = .free → ∃ c, X.env.cells.lookup y.1 = some c := fun y m e => (ok.free y m e).elim (fun k => I.ok.has _ (.inl k)) fun k => I.ok.has _ (.inr k)
  rw [eval_ListComp]
  refine wpAny_comprehension_free rfl hs (closure_ok free) ok.kind (fun y m e => (ok.uniq y m).trans (e ▸ rfl)) (thn (il.run pins s σ H _ I h) fun xv s1 hx => ?_)
  have ⟨x, H1, I1, r1, a, ex, ⟨xs, hq⟩, q⟩ := hx
  subst ex
  cases r1
  have ⟨its, _, pl, _⟩ := I1.list hq
  refine wpAny_pyIter_list pl.isList (wpAny_newObj_type (newEnv_comp ?_) (show 0 ≤ sizeLine from Nat.zero_le _))
  -- the iterator, the new list
  have I2 := I1.kept (h' := s1.heap.push { cls := .type "list_iterator", data := .fields #[.ref a, .int 0 0] }) (t' := s1.toks) fun b o e => Heap.get?_push_of_some _ e
  have it0 : (s1.heap.push { cls := .type "list_iterator", data := .fields #[.ref a, .int 0 0] }).IsListIter s1.heap.objs.size a 0 := ⟨_, Heap.get?_push_size _ rfl, rfl, rfl⟩
  have new1 : H1 s1.heap.objs.size = none := I1.hok.fresh (Nat.le_refl _)
  generalize hk2 : s1.heap.push { cls := .type "list_iterator", data := .fields #[.ref a, .int 0 0] } = k2 at I2 it0 ⊢
  have lt2 : s1.heap.objs.size < k2.objs.size := by rw [← hk2, Heap.size_push]; exact Nat.lt_succ_self _
  have fp2 : FpOk X pins H1 s1.heap.objs.size := I1.fpOk (Nat.le_refl _) new1
  have I3 : Inv X pins σ (upd H1 k2.objs.size (.lst [])) { s1 with heap := k2.push { cls := .type "list", data := .seq ([] : List Value).toArray } } :=
    I2.laid (t' := s1.toks) (fun b o e => Heap.get?_push_of_some _ e) (Nat.le_refl _) ⟨Nat.zero_le _, [], 0, .nil, Heap.get?_push_size _ rfl⟩
  have ⟨W, ⟨m0, w0⟩, turn⟩ := q k2.objs.size (I2.hok.fresh (Nat.le_refl _))
  have fp3 : FpOk X pins (upd H1 k2.objs.size (.lst [])) s1.heap.objs.size := ⟨(upd_ne (Nat.ne_of_lt lt2)).trans fp2.1, fp2.2⟩
  have it3 : (k2.push { cls := .type "list", data := .seq ([] : List Value).toArray }).IsListIter s1.heap.objs.size a 0 := it0.at fun o e => Heap.get?_push_of_some _ e
  generalize hH3 : upd H1 k2.objs.size (.lst []) = H3 at I3 w0 fp3
  generalize hs3 : ({ s1 with heap := k2.push { cls := .type "list", data := .seq ([] : List Value).toArray } } : Shared) = s3 at I3
  generalize hit : s1.heap.objs.size = it at *
  generalize hD : k2.objs.size = D at *
  have e3 : s3.heap = k2.push { cls := .type "list", data := .seq ([] : List Value).toArray } := by rw [← hs3]
  have it3' : s3.heap.IsListIter it a 0 := by rw [e3]; exact it3
  have lt3 : it < s3.heap.objs.size := by rw [e3, Heap.size_push, hD]; exact Nat.lt_succ_of_lt lt2
  have I4 := block_start I3 ok hN (fp := [it]) fun b m => by
    rw [List.mem_singleton] at m
    subst m
    exact ⟨fp3, lt3⟩
  have P3 := I3.pin p (List.mem_append_left _ pm)
  have offst : p.1 ∉ frs X.stack := fun m => (List.mem_cons.mp (I3.stkSub p.1 m)).elim P3.2.2.1 P3.2.2.2.1
  have nep : p.1 ≠ it := fp3.2.2.2.2.2 p (List.mem_append_left _ pm)
  have pg := hg s3 H3 s3.heap.objs.size (cellsFrom (s3.heap.objs.size + 1) scope.names (cloFrom X.env.cells scope.names [])) [it]
  have pt := ht s3 H3 s3.heap.objs.size (cellsFrom (s3.heap.objs.size + 1) scope.names (cloFrom X.env.cells scope.names [])) [it]
  have pe := he s3 H3 s3.heap.objs.size (cellsFrom (s3.heap.objs.size + 1) scope.names (cloFrom X.env.cells scope.names [])) [it]
  change codeAny _ _ (.compStart (.ListComp elt [⟨tg, iter, ifs, 0⟩] scope pos) 0 (.ref it) (.ref D) (compEnvC scope (cellsFrom (s3.heap.objs.size + 1) scope.names (cloFrom X.env.cells scope.names [])) s3.heap.objs.size X.env)) (compPost (model X.prog X.w) X.A X.xe none _ (.ref D) s3.heap.objs.size) { s3 with heap := pushCells (s3.heap.push { cls := .type "dict", data := .dict #[] }) scope.names }
  generalize hce : compEnvC scope (cellsFrom (s3.heap.objs.size + 1) scope.names (cloFrom X.env.cells scope.names [])) s3.heap.objs.size X.env = ce at I4 pg pt pe ⊢
  have cL : ce.locals = s3.heap.objs.size := by rw [← hce]; rfl
  have it4 : (pushCells (s3.heap.push { cls := .type "dict", data := .dict #[] }) scope.names).IsListIter it a 0 := it3'.at fun o e => pushCells_keeps _ _ _ _ (Heap.get?_push_of_some _ e)
  have fpB : ∀ {σ' : L2.St} {H' : Hp} {s' : Shared}, Inv (X.blk s3 H3 scope ce [it]) [] σ' H' s' → H' it = none → FpOk (X.blk s3 H3 scope ce [it]) [] H' it := fun J n =>
    ⟨n, (J.ok.exf it (by simp)).1, J.ok.exfs it (by simp), .inl (by simp), fun x c e => (J.ok.exf it (by simp)).2 x c e, fun r m => absurd m (by simp)⟩
  have loop : codeAny (model X.prog X.w) X.A (.compLoop (.ListComp elt [⟨tg, iter, ifs, 0⟩] scope pos) 0 (.ref it) (.ref D) ce) (compPost (model X.prog X.w) X.A X.xe none (EP X pins σ Q) (.ref D) s3.heap.objs.size) { s3 with heap := pushCells (s3.heap.push { cls := .type "dict", data := .dict #[] }) scope.names } := ?_
  · exact codeAny_compStart_list loop (wpAny_pyIter_listiter it4 loop)
  refine compLoop_any (fun n s' => ∃ i H', Inv (X.blk s3 H3 scope ce [it]) [] (wipe σ (own.map (·.2))) H' s' ∧ s'.heap.IsListIter it a i ∧ H' it = none ∧ W i n H') ?_ m0 ⟨0, H3, I4, it4, fp3.1, w0⟩
  rintro n s5 ⟨i, H5, I5, st5, n5, w5⟩
  rcases turn i n H5 w5 with ⟨⟨xs5, hq5, past⟩, qq⟩ | ⟨⟨xs5, y, hq5, hy⟩, Nx, hNx, step⟩
  · have hp5 : s5.heap.get? p.1 = some p.2 := I5.base.keep p.1 p.2 P3.1 P3.2.1 offst (by simp [nep])
    have ⟨its5, rv5, pl5, _⟩ := I5.list hq5
    refine HotX2.list_ends ⟨hh, p.2, ws, hp5, pd, pc⟩ nep st5 pl5.isList (by have := rv5.length; simp; omega) fun h6 ext => ?_
    have I6 := fpOk_turned I5 (fpB I5 n5) ext
    have I7 : Inv X pins σ H5 { s5 with heap := h6 } := I3.call' (ch := [it]) I6.os I6.base I6.hok I6.bare fun b m => by
      rw [List.mem_singleton] at m
      subst m
      exact ⟨fp3.2.2.2.1, fp3.2.1, fp3.2.2.2.2.1, fp3.2.2.2.2.2⟩
    have nC : H5 s3.heap.objs.size = none := cL ▸ I6.free
    have ⟨m, hn, _⟩ := I6.loc
    have f := I3.fpOk (Nat.le_refl _) nC
    exact ⟨m, cL ▸ hn, fun h8 sb => ⟨.ref D, H5, fpOk_turned I7 f fun b o nb e => (sb.2 b nb).trans e, rfl, qq⟩⟩
  · have ⟨its5, rv5, pl5, _⟩ := I5.list hq5
    have ⟨u, hu, ru⟩ := rv5.get hy
    refine wpAny_pyNext_list_item st5 pl5.isList (x := u) (by simpa using hu) fun h6 st6 sb => ?_
    have I6 := fpOk_turned I5 (fpB I5 n5) fun b o nb e => (sb.2 b nb).trans e
    have ⟨oi, gi, ci, di⟩ := id st6
    refine go_of (s := { s5 with heap := h6 }) gi ci di (by decide) ?_
    have I7 : Inv (X.blk s3 H3 scope ce [it]) [(it, oi)] (wipe σ (own.map (·.2))) H5 { s5 with heap := h6 } := I6.pins_of fun r m => by
      rw [List.mem_singleton] at m
      subst m
      exact ⟨gi, n5, (I6.ok.exf it (by simp)).1, I6.ok.exfs it (by simp), fun v z => by rw [di] at z; cases z⟩
    refine thnF (pg.run _ _ _ H5 y u _ I7 ru (step y H5 ⟨rfl, fun ys hys => (I5.list_inj hys hq5) ▸ hy⟩)) fun _ s8 ⟨σ8, H8, I8, hw8, q8⟩ => ?_
    refine thnF (pt.run _ s8 σ8 H8 _ I8 q8) fun b s9 ⟨H9, I9, q9⟩ => ?_
    have done : ∀ {s' : Shared} {H' : Hp}, Inv (X.blk s3 H3 scope ce [it]) [(it, oi)] σ8 H' s' → Nx H' → ∃ m, m < n ∧ ∃ i H', Inv (X.blk s3 H3 scope ce [it]) [] (wipe σ (own.map (·.2))) H' s' ∧ s'.heap.IsListIter it a i ∧ H' it = none ∧ W i m H' := fun {s' H'} J nx => by
      have ⟨m', lt, w'⟩ := hNx H' nx
      have z := J.pin (it, oi) (by simp)
      refine ⟨m', lt, i + 1, H', (J.pins_of (pins' := []) fun r m => absurd m (by simp)).weak (by rw [← hw8, wipe_length]) (fun j v e => ?_), st6.at (fun o e => ?_), z.2.1, w'⟩
      · rw [← hw8] at e
        exact (wipe_some e).1
      · have e' : h6.get? it = some o := e
        rw [gi] at e'
        exact e' ▸ z.1
    cases b with
    | false => exact done I9 q9
    | true => exact thnF (pe.run _ s9 σ8 H9 _ I9 q9) fun z s10 ⟨yv, H10, I10, r10, acc, hD10, hz10, nx⟩ => app_ok (X := X.blk s3 H3 scope ce [it]) I10 hD10 hz10 r10 fun s11 I11 => done I11 nx
end
end L2
namespace L2
open PySem PySem.Spec PyProof.Rows
/-! ## a def that is asked about the error p, which is being handled -/
structure FnE (P : Program) (w : World) (K : PySem.W.Frag) (mg : Str → Option Value) (base : Heap) (k : Nat) (f : Addr) (fd : FuncData) (ps : List Str) (sp : Addr × Obj → Sp) : Prop where
  len : ∀ p vs H Q E, sp p vs H Q E → vs.length = ps.length
  run : ∀ (p : Addr × Obj) (A : Around) (outer : List Env) (z : Shared) (H : Hp) (args : Args) (us : List Value) (vs : List V) (Q : VK), L2H.RoomH k A → L2H.Hot1 A p → L2H.PinOk outer H z p → Env0 P w K mg base A outer z H → BindsTo z fd args (ps.zip us) → Vals vs us → sp p vs H Q E0 →
    codeAny (model P w) A (.call (.ref f) args) (CR CX0 outer P w H z Q E0) z
theorem fn_ofE {P : Program} {w : World} {K : PySem.W.Frag} {mg : Str → Option Value} {base : Heap} {k : Nat} {f : Addr} {nm qual : Str} {pars : Arguments} {body : List Stmt} {sc : Scope} {dV kV doc pm cdv ct oc : Value} {an od : Option Addr}
    {osl : Array (Option Value)} {N ps : List Str} {sp : Addr × Obj → Sp} (lk : K.lookup f = some ⟨oc, od, .func (PySem.W.fnOf nm qual pars body sc dV kV doc pm an cdv ct), osl⟩) (hcd : PySem.W.codeIn K cdv qual = true) (Sc : FnScope N ps sc)
    (len : ∀ p vs H Q E, sp p vs H Q E → vs.length = ps.length)
    (hbody : ∀ (p : Addr × Obj) (A : Around) (outer : List Env) (z : Shared) (H : Hp) (vs : List V) (Q : VK), L2H.Hot1 A p → L2H.RoomH k (A.deeper (envOfC qual sc z.heap.objs.size f cdv)) → sp p vs H Q E0 →
      ∃ t, PSs (L2H.cxH CX0 P w K mg base N qual sc f cdv A outer z H E0 p) body t ∧ t { nx := fun _ H' => Q .non H', rt := Q } (L2.start N vs) H) :
    FnE P w K mg base (k + 1) f (PySem.W.fnOf nm qual pars body sc dV kV doc pm an cdv ct) ps sp := by
  refine ⟨len, fun p A outer z H args us vs Q room hot pin e0 hb r want => ?_⟩
  have n := len _ _ _ _ _ want
  have up : ∀ b o, base.get? b = some o → z.heap.get? b = some o := fun b o e => (e0.bs b o e).1
  have KZ : K.In z.heap := e0.mod.kin.keeps up
  refine codeAny_call_function room.depth (KZ _ _ lk) rfl Sc.co Sc.gen rfl (PySem.W.codeRec_of KZ hcd) (hb _ _ _ _ ?_)
  refine wpAny_newFunctionEnv_cells Sc.kind (fun q m => ?_) fun env he z1 x => ?_
  · rcases Sc.par q.1 (List.of_mem_zip m).1 with c | c
    · exact .inl c
    · exact .inr ⟨c, PySem.W.cellsFrom_some _ _ _ (.inl c)⟩
  subst he
  refine ⟨(e0.mod.nolimit.keeps up).keeps x.toInCall.keep, codeAny_func ?_⟩
  have ⟨t, ht, hq⟩ := hbody p A outer z H vs Q hot (room.deeper _) want
  have I := L2H.inv_startH (CX := CX0) (P := P) (w := w) (qual := qual) (f := f) (cd := cdv) (E := E0) Sc pin e0 n r x
  refine wpAny_mono (ht.run [] z1 (L2.start N vs) H _ I hq) (fun fl z2 out => ?_) fun _ _ no => no
  match fl, out with
  | .ret _, ⟨v, _, H1, J, rv, q⟩ => exact ⟨v, H1, J.os, J.bare, J.base, J.hok, rv, q⟩
  | .next, ⟨_, H1, J, q⟩ => exact ⟨V.non, H1, J.os, J.bare, J.base, J.hok, rfl, q⟩
  | .brk, ⟨_, _, _, q⟩ => exact q.elim
  | .cont, ⟨_, _, _, q⟩ => exact q.elim
def tCallE (p : Addr × Obj) (sp : Addr × Obj → Sp) (t : TA) : TE := fun σ H Q => t σ H fun vs H1 => sp p vs H1 Q E0
section
variable {X : Cx} {k : Nat} {f : Addr} {fd : FuncData} {ps : List Str} {sp : Addr × Obj → Sp} {x : Str} {q pos : Pos} {e : Expr} {es : List Expr} {t : TA} {p : Addr × Obj}
theorem pe_callE (F : FnE X.prog X.w X.K X.mg X.base k f fd ps sp) (room : L2H.RoomH k X.A) (hot : L2H.Hot1 X.A p) (hp : p ∈ X.pn) (hg : Gl X x) (hm : X.mg x = some (.ref f)) (hk : PySem.W.keepIn X.K (.ref f) = true) (hb : Binds X.K fd ps [])
    (ha : PA X (e :: es) t) (db : (x == ("__debug__" : Str)) = false := by decide) (he : starEach (e :: es) X.env = (false, eval e X.env) :: starEach es X.env := by rfl) (hpl : (backTo pos (starEach es X.env)).any (·.1) = false := by rfl) :
    PE X (.Call (.Name x q) (e :: es) [] pos) (tCallE p sp t) := by
  constructor
  intro pins z σ H Q I h
  refine wpAny_Call_Name_kw (ld_glob I hg hm ?_ db)
  refine PySem.W.callWith_K (h₀ := X.base) I.ok.mod.kin hk (thn (ha.run pos pins z σ H _ I h) fun us z1 out => ?_) he hpl
  have ⟨vs, H1, I1, r, want⟩ := out
  refine ⟨I1.kIn, ?_⟩
  have b := hb z1 us I1.kIn (by rw [List.append_nil, ← r.length]; exact F.len _ _ _ _ _ want)
  rw [List.append_nil] at b
  have g := I1.pin p (List.mem_append_left _ hp)
  have pin : L2H.PinOk X.stack H1 z1 p := ⟨g.1, g.2.1, fun m => (List.mem_cons.mp (I1.stkSub p.1 m)).elim g.2.2.1 g.2.2.2.1, g.2.2.2.2⟩
  refine wpAny_call (codeAny_mono (F.run p X.A X.stack z1 H1 ⟨us, []⟩ us vs Q room hot pin I1.env0 b r want) fun r z2 out => ?_)
  match r, out with
  | .ok (.ret _), c => exact I1.after c
/-- isinstance(e, c), e the error p, which has a dict -/
def rIsEx (K : PySem.W.Frag) (p : Addr × Obj) : List V → Hp → VK → Prop := fun xs H Q => ∃ (D : Addr) (c : V) (cv : Value) (b : Bool) (dd : Addr) (fs : List (Str × V)), xs = [.ref p.1, c] ∧ (∀ u, RelV c u → u = cv) ∧ ExcC K D ∧ Zc (.ref D) (some dd) p.2 ∧ (∃ vs, p.2.data = .fields vs) ∧ H dd = some (.xd fs) ∧
  PySem.W.kitOne K (.ref D) cv = some b ∧ Q (.bl b) H
theorem call_isEx (hp : p ∈ X.pn) : CallR X (.builtin "isinstance") (rIsEx X.K p) := by
  intro pins z σ H xs us Q I r h
  have ⟨D, c, cv, b, dd, fs, ex, hcv, C, hz, ⟨vs, hv⟩, hdd, e, q⟩ := h
  subst ex
  match us, r with
  | [_, _], .cons rx (.cons rt .nil) =>
    cases rx
    cases hcv _ rt
    have ⟨mA, hns, _⟩ : ObjOk X.prog X.w H z.heap dd (.xd fs) := I.hok dd _ hdd
    have ⟨od, ho, _⟩ := lookIn_ns hns
    have here := (I.pin p (List.mem_append_left _ hp)).1
    have J : PySem.W.InstAt z.heap p.1 p.2 D (some od) := ⟨here, hz.1, by unfold PySem.W.notCls; rw [hv] <;> rfl, by rw [hz.2]; exact ho⟩
    have ⟨cdD, hcD, _⟩ := PySem.W.any_some C.hd
    refine PySem.W.kia_one (PySem.W.kitx_exc (gt := none) (by rw [hcD]; rfl) C.hg C.hk C.hs C.ha C.hn C.ht C.hm) I.kIn J e (fun z => nomatch z) fun tk => ?_
    exact ⟨.bl b, H, I.kept (t' := tk) fun _ _ z => z, rfl, q⟩
end
/-! ## defs that may raise -/
section
variable {P : Program} {w : World} {K : PySem.W.Frag} {mg : Str → Option Value} {base : Heap} {k : Nat} {f : Addr} {fd : FuncData} {ps : List Str} {sp sp' : Sp} {CX : CXT}
/-- where nothing is let out, any way of letting out will do -/
theorem FnOk.free (F : FnOk P w K mg base CX0 k f fd ps sp) : FnOk P w K mg base CX k f fd ps sp := by
  refine ⟨F.len, fun A outer s H args us vs Q E hr e0 hb hv h => codeAny_mono (F.run A outer s H args us vs Q E hr e0 hb hv h) fun r s' out => ?_⟩
  match r, out with
  | .ok (.ret _), c => exact c
theorem FnOk.or (F : FnOk P w K mg base CX k f fd ps sp) (G : FnOk P w K mg base CX k f fd ps sp') : FnOk P w K mg base CX k f fd ps (fun vs H Q E => sp vs H Q E ∨ sp' vs H Q E) :=
  ⟨fun vs H Q E h => h.elim (F.len vs H Q E) (G.len vs H Q E), fun A outer s H args us vs Q E hr e0 hb hv h => h.elim (F.run A outer s H args us vs Q E hr e0 hb hv) (G.run A outer s H args us vs Q E hr e0 hb hv)⟩
/-- the rule of a def that may raise -/
theorem Fun.okN {x qual : Str} {st : Stmt} {N : List Str} (F : Fun K x qual st f fd) (S : FnScope N ps (defScope st)) (len : ∀ vs H Q E, sp vs H Q E → vs.length = ps.length)
    (body : ∀ (cdv : Value) (A : Around) (outer : List Env) (s : Shared) (H : Hp) (vs : List V) (Q : VK) (E : XK), Room k (A.deeper (envOfC qual (defScope st) s.heap.objs.size f cdv)) → sp vs H Q E →
      ∃ t, PSs (cxOf (L2N.CX P w) P w K mg base N qual (defScope st) f cdv A outer s H E) (defBody st) t ∧ t { nx := fun _ H' => Q .non H', rt := Q } (L2.start N vs) H) : FnOk P w K mg base (L2N.CX P w) (k + 1) f fd ps sp := by
  have ⟨oc, od, kV, doc, pm, an, cdv, ct, osl, e, lk, hcd⟩ := F.ex
  subst e
  exact fn_of lk hcd S len fun A outer s H vs Q E hr h => body cdv A outer s H vs Q E hr h
end
section
variable {X : Cx} {W : WX}
theorem takesF : L2N.Takes X (fun _ _ _ _ => False) := fun _ _ x => by
  have ⟨_, _, _, _, _, _, _, _, _, _, _, _, _, _, _, _, z⟩ := x
  exact z.elim
/-- in a try's body: what the clauses wish for, at any slots -/
def eAll (n : Nat) (W : WX) : XK := fun cls d H => ∀ σ : L2.St, σ.length = n → W cls d σ H
theorem passTry (n : Nat) (tk : L2N.Takes X W) (hn : X.N.length = n := by rfl) : Passes (L2N.CX X.prog X.w) X (eAll n W) := fun _ σ _ _ e s' I c => tk e s' (L2N.XE.of_call I (fun _ _ _ h => h σ (I.len.trans hn)) c)
/-- in a def that may raise -/
theorem passUp {E : XK} (tk : L2N.Takes X (fun cls d _ H => E cls d H)) : Passes (L2N.CX X.prog X.w) X E := L2N.passes_call tk fun _ _ _ _ h => h
theorem slot_set {σ : L2.St} {i n : Nat} {v : Option V} (h : σ.length = n) (hi : i < n) : (σ.set i v)[i]? = some v := by
  rw [List.getElem?_set_self (by omega)]
end
end L2
namespace L2
open PySem PySem.Spec PyProof.Rows
/-! ## own operators of an instance with a dict -/
section
variable {X : Cx} {CX : CXT} {k : Nat} {C f : Addr} {fd : FuncData} {ps : List Str} {sp : Sp} {E : XK} {a b : Expr} {ta tb : TE} {pos : Pos}
end
end L2
namespace PySem
open AutoSeq1 (wpAny_loadPart')
section
variable {prog : Program} {w : World} {A : Around} {E : Value → Shared → Prop} {s : Shared}
end
end PySem
namespace L2
open PySem PySem.Spec PyProof.Rows
end L2
namespace Toy
open PySem L2
/-! ### data -/
def vI (ns : List Int) : List V := ns.map V.int
def asc (ns : List Int) (n : Nat) : List Int := ((List.range n).filter fun (i : Nat) => decide ((i : Int) ∈ ns)).map fun (i : Nat) => (i : Int)
def isW (n : Nat) (x : Int) : Bool := decide (0 ≤ x) && decide (x < (n : Int))
/-- a list or a tuple of the vI ns -/
def Sq (K : PySem.W.Frag) (H : Hp) (a : Addr) (ns : List Int) : Prop := SqL K H a (vI ns) ∨ SqT K H a (vI ns)
theorem inV_vI (x : Int) : ∀ ns : List Int, inV (.int x) (vI ns) = decide (x ∈ ns)
  | [] => by simp [inV, vI]
  | y :: r => by
    have ih := inV_vI x r
    show ((y == x) || inV (.int x) (vI r)) = decide (x ∈ y :: r)
    rw [ih]
    by_cases h : y = x
    · subst h
      simp
    · have h' : ¬ x = y := fun z => h z.symm
      simp [h, h']
theorem flat_vI : ∀ ns : List Int, (vI ns).all flatV = true
  | [] => rfl
  | _ :: r => flat_vI r
theorem Sq.same {K : PySem.W.Frag} {H H' : Hp} {a : Addr} {ns : List Int} (s : Same H H') (h : Sq K H a ns) : Sq K H' a ns := by
  rcases h with h | h
  · exact .inl (s.seq h)
  · refine .inr ?_
    rcases h with (h | ⟨o, h⟩) | h
    · exact .inl (.inl (s _ _ h))
    · exact .inl (.inr ⟨o, s _ _ h⟩)
    · exact .inr h
theorem Same.upd {H H' : Hp} {p : Addr} {o : HO} (s : Same H H') (n : H' p = none) : Same H (L2.upd H' p o) := fun b u e => by
  rw [upd_ne (ne_of_none (s b u e) n)]
  exact s b u e
theorem asc_succ (ns : List Int) (i : Nat) : asc ns (i + 1) = if (i : Int) ∈ ns then asc ns i ++ [(i : Int)] else asc ns i := by
  unfold asc
  rw [List.range_succ, List.filter_append]
  by_cases h : (i : Int) ∈ ns
  · rw [if_pos h]
    simp [h]
  · rw [if_neg h]
    simp [h]
theorem asc_len (ns : List Int) (n : Nat) : (asc ns n).length ≤ n := by
  unfold asc
  rw [List.length_map]
  exact Nat.le_trans (List.length_filter_le _ _) (by simp)
theorem yesT {σ : St} {H : Hp} {R : Bool → Hp → Prop} (h : R true H) : tYes σ H R := h
theorem vI_at {ns : List Int} {i : Nat} {y : V} (h : (vI ns)[i]? = some y) : ∃ x, ns[i]? = some x ∧ y = V.int x := by
  unfold vI at h
  rw [List.getElem?_map] at h
  cases e : ns[i]? with
  | none =>
    rw [e] at h
    cases h
  | some x =>
    rw [e] at h
    exact ⟨x, rfl, (Option.some.inj h).symm⟩
theorem take_more {α : Type} : ∀ {l : List α} {i : Nat} {x : α}, l[i]? = some x → l.take (i + 1) = l.take i ++ [x]
  | [], i, x, h => by simp at h
  | a :: l, 0, x, h => by
    have e : a = x := Option.some.inj h
    subst e
    rfl
  | a :: l, i + 1, x, h => by
    have ih := take_more (l := l) (i := i) (x := x) h
    show a :: l.take (i + 1) = a :: l.take i ++ [x]
    rw [ih]
    rfl
/-! ### the text by places -/
def top (i : Nat) : Stmt := PySem.Challenge.pw_murmurline_k14_people_refused.main.body.getD i (.Pass ⟨0, 0, 0, 0⟩)
abbrev sIsSize : Stmt := top 23
abbrev sCheckSize : Stmt := top 24
abbrev sIsWord : Stmt := top 26
abbrev sAllWords : Stmt := top 27
abbrev sCheckWord : Stmt := top 28
abbrev sAsc : Stmt := top 30
/-! ### promises -/
def spIsWord : Sp := fun vs H Q _ => ∃ (x : Int) (n : Nat), vs = [.int x, .int n] ∧ Q (.bl (isW n x)) H
def spAllWords (K : PySem.W.Frag) : Sp := fun vs H Q _ => ∃ (a : Addr) (ns : List Int) (n : Nat), vs = [.ref a, .int n] ∧ SqL K H a (vI ns) ∧ ns.length < sizeLine ∧ ∀ H', Same H H' → Q (.bl (ns.all (isW n))) H'
def spAsc (K : PySem.W.Frag) : Sp := fun vs H Q _ => ∃ (a : Addr) (ns : List Int) (n : Nat), vs = [.ref a, .int n] ∧ Sq K H a ns ∧ n ≤ 6 ∧ ∀ H' p, Same H H' → H p = none → H' p = some (.lst (vI (asc ns n))) → Q (.ref p) H'
structure Bt (mg : Str → Option Value) : Prop where
  len : mg "len" = none
  range : mg "range" = none
  all : mg "all" = none
  list : mg "list" = none
  tuple : mg "tuple" = none
  enumerate : mg "enumerate" = none
  isinstance : mg "isinstance" = none
  int : mg "int" = none
  bool : mg "bool" = none
  str : mg "str" = none
  abs : mg "abs" = none
section
variable {P : Program} {w : World} {K : PySem.W.Frag} {mg : Str → Option Value} {base : Heap}
theorem scIsWord : FnScope ["word", "size"] ["word", "size"] (defScope sIsWord) := ⟨rfl, rfl, rfl, by decide +kernel, rfl, by decide +kernel, by decide +kernel⟩
theorem ok_isWord {f : Addr} {fd : FuncData} (F : Fun K "is_word" "is_word" sIsWord f fd) : FnOk P w K mg base CX0 1 f fd ["word", "size"] spIsWord := by
  refine F.ok scIsWord (fun vs H Q E h => ?_) (fun cdv A outer s H vs Q E hr h => ?_)
  · obtain ⟨x, n, rfl, _⟩ := h
    rfl
  · obtain ⟨x, n, rfl, k⟩ := h
    refine ⟨_, pss_one (ps_ret (pe_chain op_le op_lt pe_int (pv 0) (pv 1))), ?_⟩
    refine ⟨_, rfl, _, _, rfl, rfl, _, rfl, ?_⟩
    by_cases h0 : (0 : Int) ≤ x
    · rw [decide_eq_true h0]
      refine iteT ⟨_, rfl, _, _, rfl, rfl, ?_⟩
      have e : isW n x = decide (x < (n : Int)) := by unfold isW; rw [decide_eq_true h0]; rfl
      rw [e] at k
      exact k
    · rw [decide_eq_false h0]
      refine iteF ?_
      have e : isW n x = false := by unfold isW; rw [decide_eq_false h0]; rfl
      rw [e] at k
      exact k
theorem scAllWords : FnScope ["words", "size", "word"] ["words", "size"] (defScope sAllWords) := ⟨rfl, rfl, rfl, by decide +kernel, rfl, by decide +kernel, by decide +kernel⟩
theorem ok_allWords {f g : Addr} {fd fdg : FuncData} (F : Fun K "all_words" "all_words" sAllWords f fd) (B : Bt mg) (G : Fun K "is_word" "is_word" sIsWord g fdg) (mgG : mg "is_word" = some (.ref g)) (bG : Binds K fdg ["word", "size"] []) :
    FnOk P w K mg base CX0 2 f fd ["words", "size"] (spAllWords K) := by
  refine F.ok scAllWords (fun vs H Q E h => ?_) (fun cdv A outer s H vs Q E hr h => ?_)
  · obtain ⟨a, ns, n, rfl, _⟩ := h
    rfl
  · obtain ⟨a, ns, n, rfl, hS, hlen, k⟩ := h
    refine ⟨_, pss_one (ps_ret (pe_callB (cr_all rfl) (by rfl) B.all (by decide +kernel) (pa_cons (pe_lc (own := [("word", 2)]) (g := gName 2) (tt := tYes) rfl scAllWords.nd (pi_list (pv 0)) (blkOk_by (own := [("word", 2)]) (N := ["words", "size", "word"]) (sc := defScope sAllWords) (by decide +kernel))
      (fun _ _ _ _ _ => pg_name (i := 2) scAllWords.nd rfl (Or.inl rfl)) (fun _ _ _ _ _ => pts_nil)
      (fun _ _ _ _ _ => pe_call (ok_isWord G) hr rfl mgG G.kp bG .nil pass0 (pa_cons (pv 2) (pa_cons (pv 1) pa_nil)))) pa_nil))), ?_⟩
    refine ⟨_, rfl, a, rfl, ⟨_, hS⟩, fun D hD => ?_⟩
    refine lc_list (K := K) (a := a) (xs := vI ns) (fun i H' => Same H H' ∧ H' D = some (.lst ((ns.take i).map fun x => V.bl (isW n x)))) ⟨Same.upd (Same.refl H) hD, upd_same⟩ (fun i H' _ ⟨s, _⟩ => s.seq hS) ?_ ?_
    · rintro i y H' hi ⟨s, hd⟩
      obtain ⟨x, hx, rfl⟩ := vI_at hi
      refine ⟨rfl, ?_⟩
      refine yesT ?_
      refine iteT ?_
      refine ⟨_, rfl, _, rfl, x, n, rfl, ?_⟩
      refine ⟨_, hd, ?_, ?_, ?_⟩
      · rw [List.length_map]
        exact Nat.lt_of_le_of_lt (List.length_take_le' _ _) hlen
      · exact fun b u e => (ne_of_none e hD) |> fun z => by rw [upd_ne z]; exact s b u e
      · rw [upd_same, take_more hx, List.map_append]
        rfl
    · rintro H' ⟨s, hd⟩
      have el : (vI ns).length = ns.length := List.length_map ..
      rw [el, List.take_length] at hd
      refine ⟨D, ns.map (isW n), rfl, SqL.of ?_, ?_⟩
      · rw [hd, List.map_map]
        rfl
      · have := k H' s
        rw [List.all_map]
        exact this
theorem scIsSize : FnScope ["size"] ["size"] (defScope sIsSize) := ⟨rfl, rfl, rfl, by decide +kernel, rfl, by decide +kernel, by decide +kernel⟩
structure CT (K : PySem.W.Frag) (mg : Str → Option Value) (C : Addr) : Prop where
  mgC : mg "Table" = some (.ref C)
  cl : Cls K C
  rd : ClX.CRead K C (.type "type")
  most : ∃ t, PySem.W.findCls K (.ref C) (.type "type") "MOST" = some (.val (.int 6 t))
  nS : NoAttr K C "size"
  nR : NoAttr K C "_rows"
  nP : NoAttr K C "_pairs"
def spIsSize : Sp := fun vs H Q _ => ∃ n : Int, vs = [.int n] ∧ Q (.bl (decide (1 ≤ n) && decide (n ≤ 6))) H
theorem ok_isSize {f C : Addr} {fd : FuncData} (F : Fun K "is_size" "is_size" sIsSize f fd) (T : CT K mg C) : FnOk P w K mg base CX0 1 f fd ["size"] spIsSize := by
  refine F.ok scIsSize (fun vs H Q E h => ?_) (fun cdv A outer s H vs Q E hr h => ?_)
  · obtain ⟨n, rfl, _⟩ := h
    rfl
  · obtain ⟨n, rfl, k⟩ := h
    obtain ⟨t, hm⟩ := T.most
    refine ⟨_, pss_one (ps_ret (pe_chain op_le op_le pe_int (pv 0) (ClX.pe_cval (pe_glob rfl T.mgC (v := .ref C) rfl)))), ?_⟩
    refine ⟨_, rfl, _, _, rfl, rfl, _, rfl, ?_⟩
    by_cases h0 : (1 : Int) ≤ n
    · rw [decide_eq_true h0] at k ⊢
      refine iteT ⟨C, _, .int 6, _, rfl, T.rd, ⟨hm, _, rfl⟩, _, _, rfl, rfl, ?_⟩
      exact k
    · rw [decide_eq_false h0] at k ⊢
      refine iteF ?_
      exact k
theorem scAsc : FnScope ["words", "size", "word"] ["words", "size"] (defScope sAsc) := ⟨rfl, rfl, rfl, by decide +kernel, rfl, by decide +kernel, by decide +kernel⟩
theorem ok_asc {f : Addr} {fd : FuncData} (F : Fun K "ascending" "ascending" sAsc f fd) (B : Bt mg) : FnOk P w K mg base CX0 1 f fd ["words", "size"] (spAsc K) := by
  refine F.ok scAsc (fun vs H Q E h => ?_) (fun cdv A outer s H vs Q E hr h => ?_)
  · obtain ⟨a, ns, n, rfl, _⟩ := h
    rfl
  · obtain ⟨a, ns, n, rfl, hS, hn, k⟩ := h
    refine ⟨_, pss_one (ps_ret (pe_lc (own := [("word", 2)]) (g := gName 2) (tt := tTest (tOp (rIn K false) (tVar 2) (tVar 0))) rfl scAsc.nd (pi_range1 (by rfl) B.range (pa_cons (pv 1) pa_nil)) (blkOk_by (own := [("word", 2)]) (N := ["words", "size", "word"]) (sc := defScope sAsc) (by decide +kernel))
      (fun _ _ _ _ _ => pg_name (i := 2) scAsc.nd rfl (Or.inl rfl)) (fun _ _ _ _ _ => pts_one (pt_cmpR op_in_seq (pv 2) (pv 0) (by rfl)))
      (fun _ _ _ _ _ => pv 2))), ?_⟩
    refine ⟨_, rfl, n, rfl, by omega, by omega, fun D hD => ?_⟩
    refine lc_range (lo := 0) (n := n) (fun i H' => Same H H' ∧ H' D = some (.lst (vI (asc ns i)))) ⟨Same.upd (Same.refl H) hD, upd_same⟩ ?_ ?_
    · rintro i H' hi ⟨s, hd⟩
      refine ⟨rfl, ?_⟩
      refine ⟨_, rfl, _, rfl, a, _, rfl, hS.same s, rfl, flat_vI ns, _, rfl, ?_⟩
      have e0 : (0 : Int) + (i : Int) = (i : Int) := by omega
      rw [e0]
      show if (if false = true then !inV (.int (i : Int)) (vI ns) else inV (.int (i : Int)) (vI ns)) = true then _ else _
      rw [if_neg Bool.false_ne_true, inV_vI, asc_succ]
      by_cases hm : (i : Int) ∈ ns
      · rw [decide_eq_true hm, if_pos hm]
        refine iteT ?_
        refine ⟨_, rfl, _, hd, ?_, ?_, ?_⟩
        · show (vI (asc ns i)).length < sizeLine
          unfold vI
          rw [List.length_map]
          exact Nat.lt_of_le_of_lt (asc_len ns i) (Nat.lt_of_lt_of_le (Nat.lt_of_lt_of_le hi hn) (by decide))
        · exact fun b u e => (ne_of_none e hD) |> fun z => by rw [upd_ne z]; exact s b u e
        · rw [upd_same]
          unfold vI
          rw [List.map_append]
          rfl
      · rw [decide_eq_false hm, if_neg hm]
        exact iteF ⟨s, hd⟩
    · rintro H' ⟨s, hd⟩
      exact k H' D s hD hd
end
end Toy
namespace L2
open PySem PySem.Spec PyProof.Rows
section
variable {J : It} {n : Nat} {G : Hp → Prop} {Y : Nat → Hp → V → Hp → Prop}
end
theorem Paired.snoc {α β : Type} {F : α → β → Prop} {x : α} {y : β} (f : F x y) : ∀ {xs : List α} {ys : List β}, Paired F xs ys → Paired F (xs ++ [x]) (ys ++ [y])
  | _, _, .nil => .cons f .nil
  | _, _, .cons r t => .cons r (Paired.snoc f t)
theorem Paired.at {α β : Type} {F : α → β → Prop} : ∀ {xs : List α} {ys : List β} {i : Nat} {x : α}, Paired F xs ys → xs[i]? = some x → ∃ y, ys[i]? = some y ∧ F x y
  | _, _, _, _, .nil, e => by simp at e
  | _, _, 0, _, .cons r _, e => by simp at e; subst e; exact ⟨_, rfl, r⟩
  | _, _, i + 1, x, .cons _ t, e => by
    obtain ⟨u, h1, h2⟩ := Paired.at (i := i) (x := x) t (by simpa using e)
    exact ⟨u, by simpa using h1, h2⟩
theorem Paired.at2 {α β : Type} {F : α → β → Prop} : ∀ {xs : List α} {ys : List β} {i : Nat} {y : β}, Paired F xs ys → ys[i]? = some y → ∃ x, xs[i]? = some x ∧ F x y
  | _, _, _, _, .nil, e => by simp at e
  | _, _, 0, _, .cons r _, e => by simp at e; subst e; exact ⟨_, rfl, r⟩
  | _, _, i + 1, x, .cons _ t, e => by
    obtain ⟨u, h1, h2⟩ := Paired.at2 (i := i) (y := x) t (by simpa using e)
    exact ⟨u, by simpa using h1, h2⟩
theorem PairedIn.map {α β : Type} {F G : α → β → Prop} : ∀ {l₁ : List α} {l₂ : List β}, Paired F l₁ l₂ → (∀ a b, a ∈ l₁ → F a b → G a b) → Paired G l₁ l₂
  | _, _, .nil, _ => .nil
  | _, _, .cons r t, f => .cons (f _ _ List.mem_cons_self r) (PairedIn.map t fun a b h => f a b (List.mem_cons_of_mem _ h))
end L2
namespace Toy
open PySem L2
def prs (k : Nat) : List (List Int) → List (Int × Int)
  | [] => []
  | r :: R => r.map (fun x => ((k : Int), x)) ++ prs (k + 1) R
def vP (p : Int × Int) : List V := [.int p.1, .int p.2]
end Toy
namespace Toy
open PySem L2
abbrev RowsT (H : Hp) (ts : List V) (R : List (List Int)) : Prop := Paired (fun v r => ∃ t, v = V.ref t ∧ H t = some (.tup (vI r))) ts R
abbrev RowsL (H : Hp) (ls : List V) (R : List (List Int)) : Prop := Paired (fun v r => ∃ t, v = V.ref t ∧ H t = some (.lst (vI r))) ls R
abbrev PairsT (H : Hp) (qs : List V) (P : List (Int × Int)) : Prop := Paired (fun v p => ∃ t, v = V.ref t ∧ H t = some (.tup (vP p))) qs P
theorem RowsT.same {H H' : Hp} {ts R} (s : Same H H') (h : RowsT H ts R) : RowsT H' ts R := L2.Paired.mapP h fun _ _ ⟨t, e, q⟩ => ⟨t, e, s _ _ q⟩
theorem RowsL.same {H H' : Hp} {ts R} (s : Same H H') (h : RowsL H ts R) : RowsL H' ts R := L2.Paired.mapP h fun _ _ ⟨t, e, q⟩ => ⟨t, e, s _ _ q⟩
theorem PairsT.same {H H' : Hp} {ts R} (s : Same H H') (h : PairsT H ts R) : PairsT H' ts R := L2.Paired.mapP h fun _ _ ⟨t, e, q⟩ => ⟨t, e, s _ _ q⟩
/-- the attributes of a table -/
def tf (n : Nat) (tr tp : Addr) : List (Str × V) := [("size", V.int n), ("_rows", V.ref tr), ("_pairs", V.ref tp)]
theorem tf_1 (n : Nat) : putF "size" (.int n) [] = ([("size", V.int n)] : List (Str × V)) := rfl
theorem Same.updN {H H' : Hp} {D : Addr} {o : HO} (s : Same H H') (hD : H D = none) : Same H (L2.upd H' D o) := fun b u e => by
  rw [upd_ne (ne_of_none e hD)]
  exact s b u e
theorem Same.new {H : Hp} {D : Addr} {o : HO} (hD : H D = none) : Same H (L2.upd H D o) := Same.updN (Same.refl H) hD
theorem vI_len (ns : List Int) : (vI ns).length = ns.length := List.length_map ..
/-- a table stands at p, its rows R -/
def Tab (C : Addr) (H : Hp) (p : Addr) (R : List (List Int)) : Prop :=
  ∃ (dx tr tp : Addr) (ts qs : List V), H p = some (.ins C dx (tf R.length tr tp)) ∧ H dx = some (.own p) ∧ H tr = some (.tup ts) ∧ RowsT H ts R ∧ H tp = some (.tup qs) ∧ PairsT H qs (prs 0 R) ∧
    1 ≤ R.length ∧ R.length ≤ 6 ∧ ∀ r ∈ R, r.length ≤ 6
theorem Tab.same {C : Addr} {H H' : Hp} {p : Addr} {R} (s : Same H H') (h : Tab C H p R) : Tab C H' p R := by
  obtain ⟨dx, tr, tp, ts, qs, h1, h2, h3, h4, h5, h6, h7⟩ := h
  exact ⟨dx, tr, tp, ts, qs, s _ _ h1, s _ _ h2, s _ _ h3, RowsT.same s h4, s _ _ h5, PairsT.same s h6, h7⟩
section
variable {P : Program} {w : World} {K : PySem.W.Frag} {mg : Str → Option Value} {base : Heap}
structure Gs (K : PySem.W.Frag) (mg : Str → Option Value) (C : Addr) : Prop where
  B : Bt mg
  T : CT K mg C
  isW_ : ∃ f fd, Fun K "is_word" "is_word" sIsWord f fd ∧ mg "is_word" = some (.ref f) ∧ Binds K fd ["word", "size"] []
  allW : ∃ f fd, Fun K "all_words" "all_words" sAllWords f fd ∧ mg "all_words" = some (.ref f) ∧ Binds K fd ["words", "size"] []
  isS : ∃ f fd, Fun K "is_size" "is_size" sIsSize f fd ∧ mg "is_size" = some (.ref f) ∧ Binds K fd ["size"] []
  chS : ∃ f fd, Fun K "check_size" "check_size" sCheckSize f fd ∧ mg "check_size" = some (.ref f) ∧ Binds K fd ["size"] []
  chW : ∃ f fd, Fun K "check_word" "check_word" sCheckWord f fd ∧ mg "check_word" = some (.ref f) ∧ Binds K fd ["word", "size"] []
  asc : ∃ f fd, Fun K "ascending" "ascending" sAsc f fd ∧ mg "ascending" = some (.ref f) ∧ Binds K fd ["words", "size"] []
end
end Toy
namespace Toy
open PySem PySem.Spec PyProof.Rows L2
/-! ## the program's errors, and the def that asks which one an error is -/
abbrev sSingle : Stmt := topE 38
/-- where the classes stand -/
structure Errs where
  M : Addr
  c0 : Addr
  c1 : Addr
  c2 : Addr
  c3 : Addr
  c4 : Addr
  c5 : Addr
  c6 : Addr
  c7 : Addr
  c8 : Addr
  c9 : Addr
  c10 : Addr
  c11 : Addr
  c12 : Addr
  c13 : Addr
  c14 : Addr
  c15 : Addr
  c16 : Addr
  c17 : Addr
  c18 : Addr
structure ErrG (mg : Str → Option Value) (r : Errs) : Prop where
  m : mg "MurmurError" = some (.ref r.M)
  e0 : mg "BadSize" = some (.ref r.c0)
  e1 : mg "BadTable" = some (.ref r.c1)
  e2 : mg "UnknownWord" = some (.ref r.c2)
  e3 : mg "SizeMismatch" = some (.ref r.c3)
  e4 : mg "BadCount" = some (.ref r.c4)
  e5 : mg "BadPerson" = some (.ref r.c5)
  e6 : mg "BadLetter" = some (.ref r.c6)
  e7 : mg "UnknownPerson" = some (.ref r.c7)
  e8 : mg "TooMany" = some (.ref r.c8)
  e9 : mg "BadPattern" = some (.ref r.c9)
  e10 : mg "SameWord" = some (.ref r.c10)
  e11 : mg "UnknownClue" = some (.ref r.c11)
  e12 : mg "BadPlace" = some (.ref r.c12)
  e13 : mg "TooLong" = some (.ref r.c13)
  e14 : mg "Melted" = some (.ref r.c14)
  e15 : mg "NothingToUndo" = some (.ref r.c15)
  e16 : mg "NothingToRedo" = some (.ref r.c16)
  e17 : mg "Refused" = some (.ref r.c17)
  e18 : mg "BadLine" = some (.ref r.c18)
  v : mg "ValueError" = none
  i : mg "isinstance" = none
  l : mg "len" = none
/-- the errors of the class D are of one class of the program alone -/
structure KitsG (K : PySem.W.Frag) (r : Errs) (D : Addr) : Prop where
  x : ExcC K D
  m : PySem.W.kitOne K (.ref D) (.ref r.M) = some true
  v : PySem.W.kitOne K (.ref D) (.type "ValueError") = some true
  k : ∃ b0 b1 b2 b3 b4 b5 b6 b7 b8 b9 b10 b11 b12 b13 b14 b15 b16 b17 b18 : Bool, PySem.W.kitOne K (.ref D) (.ref r.c0) = some b0 ∧ PySem.W.kitOne K (.ref D) (.ref r.c1) = some b1 ∧ PySem.W.kitOne K (.ref D) (.ref r.c2) = some b2 ∧ PySem.W.kitOne K (.ref D) (.ref r.c3) = some b3 ∧ PySem.W.kitOne K (.ref D) (.ref r.c4) = some b4 ∧ PySem.W.kitOne K (.ref D) (.ref r.c5) = some b5 ∧ PySem.W.kitOne K (.ref D) (.ref r.c6) = some b6 ∧ PySem.W.kitOne K (.ref D) (.ref r.c7) = some b7 ∧ PySem.W.kitOne K (.ref D) (.ref r.c8) = some b8 ∧ PySem.W.kitOne K (.ref D) (.ref r.c9) = some b9 ∧ PySem.W.kitOne K (.ref D) (.ref r.c10) = some b10 ∧ PySem.W.kitOne K (.ref D) (.ref r.c11) = some b11 ∧ PySem.W.kitOne K (.ref D) (.ref r.c12) = some b12 ∧ PySem.W.kitOne K (.ref D) (.ref r.c13) = some b13 ∧ PySem.W.kitOne K (.ref D) (.ref r.c14) = some b14 ∧ PySem.W.kitOne K (.ref D) (.ref r.c15) = some b15 ∧ PySem.W.kitOne K (.ref D) (.ref r.c16) = some b16 ∧ PySem.W.kitOne K (.ref D) (.ref r.c17) = some b17 ∧ PySem.W.kitOne K (.ref D) (.ref r.c18) = some b18 ∧ ([b0, b1, b2, b3, b4, b5, b6, b7, b8, b9, b10, b11, b12, b13, b14, b15, b16, b17, b18].filter id).length = 1
def spSingle (K : PySem.W.Frag) (r : Errs) : Addr × Obj → Sp := fun p vs H Q _ => ∃ (D dd : Addr) (fs : List (Str × V)), vs = [.ref p.1] ∧ KitsG K r D ∧ Zc (.ref D) (some dd) p.2 ∧ (∃ vs, p.2.data = .fields vs) ∧ H dd = some (.xd fs) ∧ ∀ H', Same H H' → Q (.bl true) H'
abbrev NSi : List Str := ["_law_e", "_law_kinds", "_law_kind"]
theorem scSingle : FnScope NSi ["_law_e"] (defScope sSingle) := ⟨rfl, rfl, rfl, by decide +kernel, rfl, by decide +kernel, by decide +kernel⟩
theorem bl_at {bs : List Bool} {i : Nat} {y : V} (h : (bs.map V.bl)[i]? = some y) : ∃ b, bs[i]? = some b ∧ y = .bl b := by
  rw [List.getElem?_map] at h
  cases e : bs[i]? with
  | none => rw [e] at h; cases h
  | some b => rw [e] at h; exact ⟨b, rfl, (Option.some.inj h).symm⟩
theorem ones_more {bs : List Bool} {i : Nat} {b : Bool} (h : bs[i]? = some b) : List.replicate ((bs.take (i + 1)).filter id).length (V.int 1) = List.replicate ((bs.take i).filter id).length (V.int 1) ++ (if b = true then [V.int 1] else []) := by
  rw [take_more h, List.filter_append]
  cases b with
  | false => simp
  | true => simp [List.replicate_succ']
section
variable {P : Program} {w : World} {K : PySem.W.Frag} {mg : Str → Option Value} {base : Heap}
theorem ok_single {f : Addr} {r : Errs} {fd : FuncData} (F : Fun K "_law_single" "_law_single" sSingle f fd) (G : ErrG mg r) : FnE P w K mg base 1 f fd ["_law_e"] (spSingle K r) := by
  have ⟨oc, od, kV, doc, pm, an, cdv, ct, osl, e, lk, hcd⟩ := F.ex
  subst e
  refine fn_ofE lk hcd scSingle (fun p vs H Q E h => ?_) (fun p A outer s H vs Q hot room h => ?_)
  · obtain ⟨D, dd, fs, rfl, _⟩ := h
    rfl
  · obtain ⟨D, dd, fs, rfl, kg, hz, hf, hdd, k⟩ := h
    have isx : ∀ {x1 : Str} {t1 : TE} {q1 q2 q3 q4 : Pos}, PE (L2H.cxH CX0 P w K mg base NSi "_law_single" (defScope sSingle) f cdv A outer s H E0 p) (.Name x1 q4) t1 → PE (L2H.cxH CX0 P w K mg base NSi "_law_single" (defScope sSingle) f cdv A outer s H E0 p) (.Call (.Name "isinstance" q1) [.Name "_law_e" q2, .Name x1 q4] [] q3) (tCB (rIsEx K p) (tCons (tVar 0) (tCons t1 tNil))) :=
      fun h1 => pe_callB (call_isEx (List.mem_singleton.mpr rfl)) (by rfl) G.i (by decide +kernel) (pa_cons (pv 0) (pa_cons h1 pa_nil))
    refine ⟨_, (pss_cons (ps_set (i := 1) scSingle.nd rfl (Or.inl rfl) (pe_lst (pa_cons (isx (pe_glob rfl G.e0 (v := .ref r.c0) rfl)) (pa_cons (isx (pe_glob rfl G.e1 (v := .ref r.c1) rfl)) (pa_cons (isx (pe_glob rfl G.e2 (v := .ref r.c2) rfl)) (pa_cons (isx (pe_glob rfl G.e3 (v := .ref r.c3) rfl)) pa_nil))))))
      (pss_cons (ps_set (i := 1) scSingle.nd rfl (Or.inl rfl) (pe_op op_cat (pv 1) (pe_lst (pa_cons (isx (pe_glob rfl G.e4 (v := .ref r.c4) rfl)) (pa_cons (isx (pe_glob rfl G.e5 (v := .ref r.c5) rfl)) (pa_cons (isx (pe_glob rfl G.e6 (v := .ref r.c6) rfl)) pa_nil))))))
      (pss_cons (ps_set (i := 1) scSingle.nd rfl (Or.inl rfl) (pe_op op_cat (pv 1) (pe_lst (pa_cons (isx (pe_glob rfl G.e7 (v := .ref r.c7) rfl)) (pa_cons (isx (pe_glob rfl G.e8 (v := .ref r.c8) rfl)) (pa_cons (isx (pe_glob rfl G.e9 (v := .ref r.c9) rfl)) pa_nil))))))
      (pss_cons (ps_set (i := 1) scSingle.nd rfl (Or.inl rfl) (pe_op op_cat (pv 1) (pe_lst (pa_cons (isx (pe_glob rfl G.e10 (v := .ref r.c10) rfl)) (pa_cons (isx (pe_glob rfl G.e11 (v := .ref r.c11) rfl)) (pa_cons (isx (pe_glob rfl G.e12 (v := .ref r.c12) rfl)) pa_nil))))))
      (pss_cons (ps_set (i := 1) scSingle.nd rfl (Or.inl rfl) (pe_op op_cat (pv 1) (pe_lst (pa_cons (isx (pe_glob rfl G.e13 (v := .ref r.c13) rfl)) (pa_cons (isx (pe_glob rfl G.e14 (v := .ref r.c14) rfl)) (pa_cons (isx (pe_glob rfl G.e15 (v := .ref r.c15) rfl)) pa_nil))))))
      (pss_cons (ps_set (i := 1) scSingle.nd rfl (Or.inl rfl) (pe_op op_cat (pv 1) (pe_lst (pa_cons (isx (pe_glob rfl G.e16 (v := .ref r.c16) rfl)) (pa_cons (isx (pe_glob rfl G.e17 (v := .ref r.c17) rfl)) (pa_cons (isx (pe_glob rfl G.e18 (v := .ref r.c18) rfl)) pa_nil))))))
      (pss_one (ps_ret (pe_and (isx (pe_glob rfl G.m (v := .ref r.M) rfl)) (pe_and (isx (pe_bltn (by rfl) G.v (by decide +kernel) (v := .ty "ValueError") (u := .type "ValueError") rfl)) (pe_one (pe_cmpR op_eq (pe_callB call_len_seq (by rfl) G.l PySem.boot_len (pa_cons (pe_lcH (own := [("_law_kind", 2)]) (g := gName 2) (tt := tTest (tVar 2)) ⟨p, hot, List.mem_singleton.mpr rfl⟩ scSingle.nd (pv 1) (blkOk_by (own := [("_law_kind", 2)]) (N := NSi) (sc := defScope sSingle) (by decide +kernel)) (fun _ _ _ _ _ => pg_name (i := 2) scSingle.nd rfl (Or.inl rfl)) (fun _ _ _ _ _ => pts_one (pt_val (pv 2))) (fun _ _ _ _ _ => pe_int)) pa_nil)) pe_int (nomark _))))))))))))), ?_⟩
    obtain ⟨b0, b1, b2, b3, b4, b5, b6, b7, b8, b9, b10, b11, b12, b13, b14, b15, b16, b17, b18, h0, h1, h2, h3, h4, h5, h6, h7, h8, h9, h10, h11, h12, h13, h14, h15, h16, h17, h18, one⟩ := kg.k
    refine ⟨_, rfl, D, _, .ref r.c0, b0, dd, fs, rfl, fun u h => h, kg.x, hz, hf, hdd, h0, ⟨_, rfl, D, _, .ref r.c1, b1, dd, fs, rfl, fun u h => h, kg.x, hz, hf, hdd, h1, ⟨_, rfl, D, _, .ref r.c2, b2, dd, fs, rfl, fun u h => h, kg.x, hz, hf, hdd, h2, ⟨_, rfl, D, _, .ref r.c3, b3, dd, fs, rfl, fun u h => h, kg.x, hz, hf, hdd, h3, by show 4 ≤ sizeLine; decide, fun l0 n0 => ?_⟩⟩⟩⟩
    have k0 := Same.new (H := H) (o := .lst [.bl b0, .bl b1, .bl b2, .bl b3]) n0
    have a0 : upd H l0 (.lst [.bl b0, .bl b1, .bl b2, .bl b3]) l0 = some (.lst [.bl b0, .bl b1, .bl b2, .bl b3]) := upd_same
    generalize upd H l0 (.lst [.bl b0, .bl b1, .bl b2, .bl b3]) = H0 at k0 a0 ⊢
    have d0 := k0 _ _ hdd
    refine ⟨_, rfl, ?_⟩
    refine ⟨_, rfl, D, _, .ref r.c4, b4, dd, fs, rfl, fun u h => h, kg.x, hz, hf, d0, h4, ⟨_, rfl, D, _, .ref r.c5, b5, dd, fs, rfl, fun u h => h, kg.x, hz, hf, d0, h5, ⟨_, rfl, D, _, .ref r.c6, b6, dd, fs, rfl, fun u h => h, kg.x, hz, hf, d0, h6, by show 3 ≤ sizeLine; decide, fun m1 n1 => ?_⟩⟩⟩
    have a0' := Same.new (H := H0) (o := .lst [.bl b4, .bl b5, .bl b6]) n1 _ _ a0
    refine ⟨_, _, _, _, rfl, rfl, a0', upd_same, by show 4 + 3 ≤ sizeLine; decide, fun l1 x1 => ?_⟩
    have k1 := k0.trans ((Same.new (H := H0) (o := .lst [.bl b4, .bl b5, .bl b6]) n1).trans (Same.new (o := .lst ([.bl b0, .bl b1, .bl b2, .bl b3] ++ [.bl b4, .bl b5, .bl b6])) x1))
    have a1 : upd (upd H0 m1 (.lst [.bl b4, .bl b5, .bl b6])) l1 (.lst ([.bl b0, .bl b1, .bl b2, .bl b3] ++ [.bl b4, .bl b5, .bl b6])) l1 = some (.lst [.bl b0, .bl b1, .bl b2, .bl b3, .bl b4, .bl b5, .bl b6]) := upd_same
    generalize upd (upd H0 m1 (.lst [.bl b4, .bl b5, .bl b6])) l1 (.lst ([.bl b0, .bl b1, .bl b2, .bl b3] ++ [.bl b4, .bl b5, .bl b6])) = H1 at k1 a1 ⊢
    have d1 := k1 _ _ hdd
    refine ⟨_, rfl, ?_⟩
    refine ⟨_, rfl, D, _, .ref r.c7, b7, dd, fs, rfl, fun u h => h, kg.x, hz, hf, d1, h7, ⟨_, rfl, D, _, .ref r.c8, b8, dd, fs, rfl, fun u h => h, kg.x, hz, hf, d1, h8, ⟨_, rfl, D, _, .ref r.c9, b9, dd, fs, rfl, fun u h => h, kg.x, hz, hf, d1, h9, by show 3 ≤ sizeLine; decide, fun m2 n2 => ?_⟩⟩⟩
    have a1' := Same.new (H := H1) (o := .lst [.bl b7, .bl b8, .bl b9]) n2 _ _ a1
    refine ⟨_, _, _, _, rfl, rfl, a1', upd_same, by show 7 + 3 ≤ sizeLine; decide, fun l2 x2 => ?_⟩
    have k2 := k1.trans ((Same.new (H := H1) (o := .lst [.bl b7, .bl b8, .bl b9]) n2).trans (Same.new (o := .lst ([.bl b0, .bl b1, .bl b2, .bl b3, .bl b4, .bl b5, .bl b6] ++ [.bl b7, .bl b8, .bl b9])) x2))
    have a2 : upd (upd H1 m2 (.lst [.bl b7, .bl b8, .bl b9])) l2 (.lst ([.bl b0, .bl b1, .bl b2, .bl b3, .bl b4, .bl b5, .bl b6] ++ [.bl b7, .bl b8, .bl b9])) l2 = some (.lst [.bl b0, .bl b1, .bl b2, .bl b3, .bl b4, .bl b5, .bl b6, .bl b7, .bl b8, .bl b9]) := upd_same
    generalize upd (upd H1 m2 (.lst [.bl b7, .bl b8, .bl b9])) l2 (.lst ([.bl b0, .bl b1, .bl b2, .bl b3, .bl b4, .bl b5, .bl b6] ++ [.bl b7, .bl b8, .bl b9])) = H2 at k2 a2 ⊢
    have d2 := k2 _ _ hdd
    refine ⟨_, rfl, ?_⟩
    refine ⟨_, rfl, D, _, .ref r.c10, b10, dd, fs, rfl, fun u h => h, kg.x, hz, hf, d2, h10, ⟨_, rfl, D, _, .ref r.c11, b11, dd, fs, rfl, fun u h => h, kg.x, hz, hf, d2, h11, ⟨_, rfl, D, _, .ref r.c12, b12, dd, fs, rfl, fun u h => h, kg.x, hz, hf, d2, h12, by show 3 ≤ sizeLine; decide, fun m3 n3 => ?_⟩⟩⟩
    have a2' := Same.new (H := H2) (o := .lst [.bl b10, .bl b11, .bl b12]) n3 _ _ a2
    refine ⟨_, _, _, _, rfl, rfl, a2', upd_same, by show 10 + 3 ≤ sizeLine; decide, fun l3 x3 => ?_⟩
    have k3 := k2.trans ((Same.new (H := H2) (o := .lst [.bl b10, .bl b11, .bl b12]) n3).trans (Same.new (o := .lst ([.bl b0, .bl b1, .bl b2, .bl b3, .bl b4, .bl b5, .bl b6, .bl b7, .bl b8, .bl b9] ++ [.bl b10, .bl b11, .bl b12])) x3))
    have a3 : upd (upd H2 m3 (.lst [.bl b10, .bl b11, .bl b12])) l3 (.lst ([.bl b0, .bl b1, .bl b2, .bl b3, .bl b4, .bl b5, .bl b6, .bl b7, .bl b8, .bl b9] ++ [.bl b10, .bl b11, .bl b12])) l3 = some (.lst [.bl b0, .bl b1, .bl b2, .bl b3, .bl b4, .bl b5, .bl b6, .bl b7, .bl b8, .bl b9, .bl b10, .bl b11, .bl b12]) := upd_same
    generalize upd (upd H2 m3 (.lst [.bl b10, .bl b11, .bl b12])) l3 (.lst ([.bl b0, .bl b1, .bl b2, .bl b3, .bl b4, .bl b5, .bl b6, .bl b7, .bl b8, .bl b9] ++ [.bl b10, .bl b11, .bl b12])) = H3 at k3 a3 ⊢
    have d3 := k3 _ _ hdd
    refine ⟨_, rfl, ?_⟩
    refine ⟨_, rfl, D, _, .ref r.c13, b13, dd, fs, rfl, fun u h => h, kg.x, hz, hf, d3, h13, ⟨_, rfl, D, _, .ref r.c14, b14, dd, fs, rfl, fun u h => h, kg.x, hz, hf, d3, h14, ⟨_, rfl, D, _, .ref r.c15, b15, dd, fs, rfl, fun u h => h, kg.x, hz, hf, d3, h15, by show 3 ≤ sizeLine; decide, fun m4 n4 => ?_⟩⟩⟩
    have a3' := Same.new (H := H3) (o := .lst [.bl b13, .bl b14, .bl b15]) n4 _ _ a3
    refine ⟨_, _, _, _, rfl, rfl, a3', upd_same, by show 13 + 3 ≤ sizeLine; decide, fun l4 x4 => ?_⟩
    have k4 := k3.trans ((Same.new (H := H3) (o := .lst [.bl b13, .bl b14, .bl b15]) n4).trans (Same.new (o := .lst ([.bl b0, .bl b1, .bl b2, .bl b3, .bl b4, .bl b5, .bl b6, .bl b7, .bl b8, .bl b9, .bl b10, .bl b11, .bl b12] ++ [.bl b13, .bl b14, .bl b15])) x4))
    have a4 : upd (upd H3 m4 (.lst [.bl b13, .bl b14, .bl b15])) l4 (.lst ([.bl b0, .bl b1, .bl b2, .bl b3, .bl b4, .bl b5, .bl b6, .bl b7, .bl b8, .bl b9, .bl b10, .bl b11, .bl b12] ++ [.bl b13, .bl b14, .bl b15])) l4 = some (.lst [.bl b0, .bl b1, .bl b2, .bl b3, .bl b4, .bl b5, .bl b6, .bl b7, .bl b8, .bl b9, .bl b10, .bl b11, .bl b12, .bl b13, .bl b14, .bl b15]) := upd_same
    generalize upd (upd H3 m4 (.lst [.bl b13, .bl b14, .bl b15])) l4 (.lst ([.bl b0, .bl b1, .bl b2, .bl b3, .bl b4, .bl b5, .bl b6, .bl b7, .bl b8, .bl b9, .bl b10, .bl b11, .bl b12] ++ [.bl b13, .bl b14, .bl b15])) = H4 at k4 a4 ⊢
    have d4 := k4 _ _ hdd
    refine ⟨_, rfl, ?_⟩
    refine ⟨_, rfl, D, _, .ref r.c16, b16, dd, fs, rfl, fun u h => h, kg.x, hz, hf, d4, h16, ⟨_, rfl, D, _, .ref r.c17, b17, dd, fs, rfl, fun u h => h, kg.x, hz, hf, d4, h17, ⟨_, rfl, D, _, .ref r.c18, b18, dd, fs, rfl, fun u h => h, kg.x, hz, hf, d4, h18, by show 3 ≤ sizeLine; decide, fun m5 n5 => ?_⟩⟩⟩
    have a4' := Same.new (H := H4) (o := .lst [.bl b16, .bl b17, .bl b18]) n5 _ _ a4
    refine ⟨_, _, _, _, rfl, rfl, a4', upd_same, by show 16 + 3 ≤ sizeLine; decide, fun l5 x5 => ?_⟩
    have k5 := k4.trans ((Same.new (H := H4) (o := .lst [.bl b16, .bl b17, .bl b18]) n5).trans (Same.new (o := .lst ([.bl b0, .bl b1, .bl b2, .bl b3, .bl b4, .bl b5, .bl b6, .bl b7, .bl b8, .bl b9, .bl b10, .bl b11, .bl b12, .bl b13, .bl b14, .bl b15] ++ [.bl b16, .bl b17, .bl b18])) x5))
    have a5 : upd (upd H4 m5 (.lst [.bl b16, .bl b17, .bl b18])) l5 (.lst ([.bl b0, .bl b1, .bl b2, .bl b3, .bl b4, .bl b5, .bl b6, .bl b7, .bl b8, .bl b9, .bl b10, .bl b11, .bl b12, .bl b13, .bl b14, .bl b15] ++ [.bl b16, .bl b17, .bl b18])) l5 = some (.lst [.bl b0, .bl b1, .bl b2, .bl b3, .bl b4, .bl b5, .bl b6, .bl b7, .bl b8, .bl b9, .bl b10, .bl b11, .bl b12, .bl b13, .bl b14, .bl b15, .bl b16, .bl b17, .bl b18]) := upd_same
    generalize upd (upd H4 m5 (.lst [.bl b16, .bl b17, .bl b18])) l5 (.lst ([.bl b0, .bl b1, .bl b2, .bl b3, .bl b4, .bl b5, .bl b6, .bl b7, .bl b8, .bl b9, .bl b10, .bl b11, .bl b12, .bl b13, .bl b14, .bl b15] ++ [.bl b16, .bl b17, .bl b18])) = H5 at k5 a5 ⊢
    have d5 := k5 _ _ hdd
    refine ⟨_, rfl, D, _, .ref r.M, true, dd, fs, rfl, fun u h => h, kg.x, hz, hf, d5, kg.m, true, rfl, ?_⟩
    refine ⟨_, rfl, D, _, .type "ValueError", true, dd, fs, rfl, fun u h => h, kg.x, hz, hf, d5, kg.v, true, rfl, ?_⟩
    refine ⟨_, rfl, l5, rfl, ⟨_, SqL.of a5⟩, fun D1 nD => ?_⟩
    have e5 : ([.bl b0, .bl b1, .bl b2, .bl b3, .bl b4, .bl b5, .bl b6, .bl b7, .bl b8, .bl b9, .bl b10, .bl b11, .bl b12, .bl b13, .bl b14, .bl b15, .bl b16, .bl b17, .bl b18] : List V) = [b0, b1, b2, b3, b4, b5, b6, b7, b8, b9, b10, b11, b12, b13, b14, b15, b16, b17, b18].map V.bl := rfl
    rw [e5] at a5
    have el19 : ([b0, b1, b2, b3, b4, b5, b6, b7, b8, b9, b10, b11, b12, b13, b14, b15, b16, b17, b18] : List Bool).length = 19 := rfl
    generalize [b0, b1, b2, b3, b4, b5, b6, b7, b8, b9, b10, b11, b12, b13, b14, b15, b16, b17, b18] = bs at a5 one el19
    refine lc_list (K := K) (a := l5) (xs := bs.map V.bl) (fun i H' => Same H5 H' ∧ H' D1 = some (.lst (List.replicate ((bs.take i).filter id).length (V.int 1)))) ⟨Same.new nD, upd_same⟩ (fun i H' _ ⟨s, _⟩ => SqL.of (s _ _ a5)) ?_ ?_
    · rintro i y H6 hi ⟨s6, hd⟩
      obtain ⟨b, hb, rfl⟩ := bl_at hi
      refine ⟨rfl, ?_⟩
      refine ⟨_, rfl, b, rfl, ?_⟩
      cases b with
      | false =>
        refine iteF ⟨s6, ?_⟩
        rw [ones_more hb, if_neg Bool.false_ne_true, List.append_nil]
        exact hd
      | true =>
        refine iteT ⟨_, hd, ?_, Same.updN s6 nD, ?_⟩
        · rw [List.length_replicate]
          have h1 : ((bs.take i).filter id).length ≤ (bs.take i).length := List.length_filter_le _ _
          have h2 : (bs.take i).length ≤ bs.length := List.length_take_le' _ _
          exact Nat.lt_of_le_of_lt (by omega : _ ≤ 19) (by decide)
        · rw [upd_same, ones_more hb, if_pos rfl]
    · rintro H6 ⟨s6, hd⟩
      have el : (bs.map V.bl).length = bs.length := List.length_map ..
      rw [el, List.take_length, one] at hd
      exact ⟨D1, _, rfl, .inl (SqL.of hd), rfl, k H6 (k5.trans s6)⟩
end
end Toy
namespace Toy
open PySem PySem.Spec PyProof.Rows L2
/-- what the written part says of an error's class, for an except clause and for its attributes -/
structure ErX (P : Program) (K : PySem.W.Frag) (mg : Str → Option Value) (r : Errs) (x : Str) (flds : List Str) (C : Addr) : Prop where
  er : Er P K mg x flds C
  kit : KitsG K r C
  no : ∀ n ∈ flds, PySem.W.findIn K (.ref C) n = some none
theorem ErX.xf {P : Program} {K : PySem.W.Frag} {mg : Str → Option Value} {r : Errs} {x : Str} {flds : List Str} {C : Addr} (e : ErX P K mg r x flds C) : XfC K C := ⟨e.kit.x.hg, e.kit.x.hk, e.kit.x.hs, e.kit.x.hd⟩
/-- the suite asks which error it holds -/
def tSing (K : PySem.W.Frag) (r : Errs) (a : Addr) (cls : Value) (d : Option Addr) (i : Nat) : TE := fun σ H Q => σ[i]? = some (some (V.ref a)) ∧ ∃ (D dd : Addr) (fs : List (Str × V)), cls = .ref D ∧ d = some dd ∧ KitsG K r D ∧ H dd = some (.xd fs) ∧ ∀ H', Same H H' → Q (.bl true) H'
section
variable {X : Cx} {r : Errs} {a f : Addr} {oe : Obj} {cls : Value} {d : Option Addr} {pn : List (Addr × Obj)} {fd : FuncData} {q q2 q3 : Pos} {x : Str} {k : Nat}
theorem pe_single (i : Nat) (F : FnE X.prog X.w X.K X.mg X.base 1 f fd ["_law_e"] (spSingle X.K r)) (hr : Room 1 X.A) (hz : L2N.Zn cls d oe) (hf : ∃ vs, oe.data = .fields vs) (hm : X.mg "_law_single" = some (.ref f)) (hk : PySem.W.keepIn X.K (.ref f) = true) (hb : Binds X.K fd ["_law_e"] [])
    (hg : Gl (X.suite a ((a, oe) :: pn)) "_law_single" := by rfl) (hN : X.N[i]? = some x := by rfl) (hv : Vis X.env.scope x := by first | exact Or.inl rfl | exact Or.inr (Or.inl rfl)) (n1 : (x == ("__debug__" : Str)) = false := by decide) (n2 : (x == ("__classdict__" : Str)) = false := by decide)
    (he : starEach [.Name x q2] X.env = (false, eval (.Name x q2) X.env) :: starEach [] X.env := by rfl) (hpl : (backTo q3 (starEach [] X.env)).any (·.1) = false := by rfl) :
    PE (X.suite a ((a, oe) :: pn)) (.Call (.Name "_law_single" q) [.Name x q2] [] q3) (tSing X.K r a cls d i) := by
  have ⟨vs, ev⟩ := hf
  have hot : L2H.Hot1 (X.suite a ((a, oe) :: pn)).A (a, oe) := ⟨rfl, vs, ev, hz.2.2 vs ev⟩
  have room : L2H.RoomH 1 (X.suite a ((a, oe) :: pn)).A := ⟨hr.dp, hr.un⟩
  have R := pe_callE (X := X.suite a ((a, oe) :: pn)) (pos := q3) (q := q) F room hot List.mem_cons_self hg hm hk hb (pa_cons (e := .Name x q2) (es := []) (pe_var (X := X.suite a ((a, oe) :: pn)) (i := i) hN hv n1 n2) pa_nil) (by decide) he hpl
  refine ⟨fun pins s σ H Q I h => R.run pins s σ H Q I ?_⟩
  have ⟨h1, D, dd, fs, ec, ed, kg, hdd, h2⟩ := h
  refine ⟨_, h1, D, dd, fs, rfl, kg, ?_, hf, hdd, h2⟩
  rw [← ec, ← ed]
  exact hz.zc
end
/-- a new list of these -/
def NewL (H : Hp) (Q : VK) (xs : List V) : Prop := ∀ H' q, Same H H' → H q = none → H' q = some (.lst xs) → Q (.ref q) H'
/-- what an error helper of a law rests on -/
structure Hk (P : Program) (K : PySem.W.Frag) (mg : Str → Option Value) (r : Errs) : Prop where
  G : ErrG mg r
  single : ∃ f fd, Fun K "_law_single" "_law_single" sSingle f fd ∧ mg "_law_single" = some (.ref f) ∧ Binds K fd ["_law_e"] []
end Toy
namespace Toy
open PySem L2
/-- new lists -/
abbrev RowsN (H0 H : Hp) (ls : List V) (R : List (List Int)) : Prop := Paired (fun v r => ∃ t, v = V.ref t ∧ H t = some (.lst (vI r)) ∧ H0 t = none) ls R
section
variable {P : Program} {w : World} {K : PySem.W.Frag} {mg : Str → Option Value} {base : Heap}
end
end Toy
namespace Toy
open PySem L2
/-! ### the box -/
def off (b : Addr) (H : Hp) : Hp := fun a => if a = b then none else H a
theorem off_ne {b a : Addr} {H : Hp} (h : a ≠ b) : off b H a = H a := by unfold off; rw [if_neg h]
theorem off_at {b : Addr} {H : Hp} : off b H b = none := by unfold off; rw [if_pos rfl]
theorem off_le {b : Addr} {H : Hp} : Same (off b H) H := fun a o e => by
  by_cases h : a = b
  · rw [h, off_at] at e
    cases e
  · rw [off_ne h] at e
    exact e
theorem off_ne_of {b a : Addr} {H : Hp} {o : HO} (e : off b H a = some o) : a ≠ b := fun z => by
  rw [z, off_at] at e
  cases e
theorem off_upd {b : Addr} {H : Hp} {o : HO} : off b (upd H b o) = off b H := by
  funext a
  by_cases h : a = b
  · rw [h, off_at, off_at]
  · rw [off_ne h, off_ne h, upd_ne h]
theorem off_updN {b p : Addr} {H : Hp} {o : HO} (h : p ≠ b) : off b (upd H p o) = upd (off b H) p o := by
  funext a
  by_cases h1 : a = b
  · rw [h1, off_at, upd_ne (Ne.symm h), off_at]
  · rw [off_ne h1]
    by_cases h2 : a = p
    · rw [h2, upd_same, upd_same]
    · rw [upd_ne h2, upd_ne h2, off_ne h1]
theorem Same.off {b : Addr} {H H' : Hp} (s : Same H H') : Same (Toy.off b H) (Toy.off b H') := fun a o e => by
  have n := off_ne_of e
  rw [off_ne n] at e ⊢
  exact s _ _ e
def BoxAt (H : Hp) (b c : Addr) : Prop := ∃ (cs : List Int) (i pend st : Int), H b = some (.lst [.ref c, .int i, .int pend, .int st]) ∧ H c = some (.lst (vI cs)) ∧ c ≠ b ∧ 0 ≤ i ∧ 0 ≤ pend ∧ 0 ≤ st ∧ st < 2147483647 ∧ ∀ x ∈ cs, 0 ≤ x
theorem BoxAt.same {H H' : Hp} {b c : Addr} (s : Same H H') (h : BoxAt H b c) : BoxAt H' b c := by
  obtain ⟨cs, i, p, st, h1, h2, h3⟩ := h
  exact ⟨cs, i, p, st, s _ _ h1, s _ _ h2, h3⟩
theorem BoxAt.upd {H : Hp} {b c l : Addr} {o : HO} (h : BoxAt H b c) (n : l ≠ b) (n' : l ≠ c) : BoxAt (L2.upd H l o) b c := by
  obtain ⟨cs, i, p, st, h1, h2, h3⟩ := h
  exact ⟨cs, i, p, st, by rw [upd_ne (Ne.symm n)]; exact h1, by rw [upd_ne (Ne.symm n')]; exact h2, h3⟩
theorem BoxAt.nec {H : Hp} {b c p : Addr} (h : BoxAt H b c) (n : H p = none) : p ≠ c := by
  obtain ⟨cs, i, p, st, h1, h2, h3⟩ := h
  exact (ne_of_none h2 n).symm
theorem BoxAt.ne {H : Hp} {b c p : Addr} (h : BoxAt H b c) (n : H p = none) : p ≠ b := by
  obtain ⟨cs, i, p, st, h1, h2, h3⟩ := h
  exact (ne_of_none h1 n).symm
abbrev sBox : Stmt := top 39
abbrev sTake : Stmt := top 40
abbrev sWords : Stmt := top 41
def spBox (K : PySem.W.Frag) : Sp := fun vs H Q _ => ∃ (a : Addr) (ns : List Int), vs = [.ref a] ∧ SqL K H a (vI ns) ∧ ns.length ≤ 63 ∧ ∀ H' b c, Same H H' → H b = none → BoxAt H' b c → Q (.ref b) H'
def spTake : Sp := fun vs H Q _ => ∃ (b c : Addr) (m : Int), vs = [.ref b, .int m] ∧ BoxAt H b c ∧ 0 < m ∧ m < 1073741824 ∧ ∀ (r : Nat) H', (r : Int) < m → BoxAt H' b c → Same (off b H) (off b H') → Q (.int r) H'
section
variable {P : Program} {w : World} {K : PySem.W.Frag} {mg : Str → Option Value} {base : Heap}
theorem scBox : FnScope ["_law_script", "_law_cell"] ["_law_script"] (defScope sBox) := ⟨rfl, rfl, rfl, by decide +kernel, rfl, by decide +kernel, by decide +kernel⟩
theorem cut_vI (ns : List Int) (lo hi : Option Int) : ∃ ms, cutV (vI ns) lo hi = vI ms ∧ ms.length ≤ ns.length := by
  refine ⟨(ns.drop (HT.sIx (vI ns).length 0 lo)).take (HT.sIx (vI ns).length (vI ns).length hi - HT.sIx (vI ns).length 0 lo), ?_, ?_⟩
  · unfold cutV vI
    rw [List.map_take, List.map_drop]
  · rw [List.length_take, List.length_drop]
    omega
theorem ok_box {f : Addr} {fd : FuncData} (F : Fun K "_law_box" "_law_box" sBox f fd) (B : Bt mg) : FnOk P w K mg base CX0 1 f fd ["_law_script"] (spBox K) := by
  refine F.ok scBox (fun vs H Q E h => ?_) (fun cdv A outer s H vs Q E hr h => ?_)
  · obtain ⟨a, ns, rfl, _⟩ := h
    rfl
  · obtain ⟨a, ns, rfl, hS, hlen, k⟩ := h
    refine ⟨_, pss_one (ps_ret (pe_lst (pa_cons (pe_lc (own := [("_law_cell", 1)]) (g := gName 1) (tt := tYes) rfl scBox.nd (pi_list (pe_slice sl_list (pv 0) po_none (po_some pe_int))) (blkOk_by (own := [("_law_cell", 1)]) (N := ["_law_script", "_law_cell"]) (sc := defScope sBox) (by decide +kernel))
          (fun _ _ _ _ _ => pg_name (i := 1) scBox.nd rfl (Or.inl rfl)) (fun _ _ _ _ _ => pts_nil)
          (fun _ _ _ _ _ => pe_callB call_abs (by rfl) B.abs (by decide +kernel) (pa_cons (pe_callTy call_int1 (by rfl) B.int (by decide +kernel) (pa_cons (pv 1) pa_nil)) pa_nil)))
        (pa_cons pe_int (pa_cons pe_int (pa_cons pe_int pa_nil)))))), ?_⟩
    refine ⟨_, rfl, 63, rfl, a, _, rfl, hS, fun p hp => ?_⟩
    obtain ⟨ms, em, lm⟩ := cut_vI ns none (some 63)
    rw [em]
    refine ⟨p, rfl, ⟨_, SqL.of upd_same⟩, fun D hD => ?_⟩
    have s1 := Same.new (H := H) (o := .lst (vI ms)) hp
    have hp1 : upd H p (.lst (vI ms)) p = some (.lst (vI ms)) := upd_same
    have hD0 := s1.free hD
    generalize upd H p (.lst (vI ms)) = H1 at hD s1 hp1
    refine lc_list (K := K) (a := p) (xs := vI ms) (fun i H' => Same H1 H' ∧ ∃ cs, H' D = some (.lst (vI cs)) ∧ cs.length = i ∧ ∀ x ∈ cs, 0 ≤ x) ⟨Same.new hD, [], upd_same, rfl, fun _ h => nomatch h⟩ (fun i H' _ ⟨s, _⟩ => SqL.of (s _ _ hp1)) ?_ ?_
    · rintro i y H2 hi ⟨s2, cs, hd, el, hc⟩
      obtain ⟨x, hx, rfl⟩ := vI_at hi
      have hi' := (List.getElem?_eq_some_iff.mp hx).1
      refine ⟨rfl, yesT (iteT ?_)⟩
      refine ⟨_, rfl, .inl ⟨_, rfl, _, rfl, ?_⟩⟩
      refine ⟨_, hd, ?_, Same.updN s2 hD, cs ++ [if x < 0 then -x else x], ?_, by simp [el], ?_⟩
      · rw [vI_len, el]
        exact Nat.lt_of_le_of_lt (by omega : i ≤ 63) (by decide)
      · rw [upd_same]
        unfold vI
        rw [List.map_append]
        rfl
      · intro z hz
        rcases List.mem_append.mp hz with h | h
        · exact hc z h
        · rw [List.mem_singleton.mp h]
          split <;> omega
    · rintro H2 ⟨s2, cs, hd, el, hc⟩
      refine ⟨by show 4 ≤ sizeLine; decide, fun b hb => ?_⟩
      have nDb : D ≠ b := ne_of_none hd hb
      refine k _ b D (s1.trans (Same.upd s2 hb)) ((s1.trans s2).free hb) ⟨cs, 0, 0, 0, upd_same, by rw [upd_ne nDb]; exact hd, nDb, by decide, by decide, by decide, by decide, hc⟩
theorem scTake : FnScope ["_law_box_here", "_law_many", "_law_digit", "_law_cell"] ["_law_box_here", "_law_many"] (defScope sTake) := ⟨rfl, rfl, rfl, by decide +kernel, rfl, by decide +kernel, by decide +kernel⟩
theorem ok_take {f : Addr} {fd : FuncData} (F : Fun K "_law_take" "_law_take" sTake f fd) (B : Bt mg) : FnOk P w K mg base CX0 1 f fd ["_law_box_here", "_law_many"] spTake := by
  refine F.ok scTake (fun vs H Q E h => ?_) (fun cdv A outer s H vs Q E hr h => ?_)
  · obtain ⟨b, c, m, rfl, _⟩ := h
    rfl
  · obtain ⟨b, c, m, rfl, ⟨cs, i, pd, st, hb, hc, ncb, i0, p0, s0, s1, c0⟩, m0, m1, k⟩ := h
    refine ⟨_, pss_cons (ps_if (pt_cmpR op_gt (pe_ix ix_list (pv 0) pe_int (fun _ _ => rfl)) pe_int (nomark _))
        (pss_cons (ps_set (i := 2) scTake.nd rfl (Or.inl rfl) (pe_op op_mod (pe_callTy call_int1 (by rfl) B.int (by decide +kernel) (pa_cons (pe_ix ix_list (pv 0) pe_int (fun _ _ => rfl)) pa_nil)) (pv 1)))
          (pss_cons (ps_asg (pe_op op_fdiv (pe_ix ix_list (pv 0) pe_int (fun _ _ => rfl)) (pv 1)) (pg_sub (pv 0) pe_int set_list)) (pss_one (ps_ret (pv 2))))) pss_nil)
      (pss_cons (ps_set (i := 3) scTake.nd rfl (Or.inl rfl) pe_int)
      (C8.pss_cut (ps_if (pt_cmpR op_lt (pe_ix ix_list (pv 0) pe_int (fun _ _ => rfl)) (pe_callB call_len_seq (by rfl) B.len PySem.boot_len (pa_cons (pe_ix ix_list (pv 0) pe_int (fun _ _ => rfl)) pa_nil)) (nomark _))
        (pss_cons (ps_set (i := 3) scTake.nd rfl (Or.inl rfl) (pe_ix ix_list (pe_ix ix_list (pv 0) pe_int (fun _ _ => rfl)) (pe_ix ix_list (pv 0) pe_int (fun _ _ => rfl)) (fun _ _ => rfl)))
          (pss_one (ps_asg (pe_op op_add (pe_ix ix_list (pv 0) pe_int (fun _ _ => rfl)) pe_int) (pg_sub (pv 0) pe_int set_list)))) pss_nil)
      (pss_cons (ps_if (pt_cmpR op_ge (pv 3) (pe_op op_pow pe_int pe_int) (nomark _))
        (pss_cons (ps_asg (pe_op op_fdiv (pv 3) (pv 1)) (pg_sub (pv 0) pe_int set_list)) (pss_one (ps_ret (pe_op op_mod (pe_callTy call_int1 (by rfl) B.int (by decide +kernel) (pa_cons (pv 3) pa_nil)) (pv 1))))) pss_nil)
      (pss_cons (ps_asg (pe_op op_mod (pe_callTy call_int1 (by rfl) B.int (by decide +kernel) (pa_cons (pe_op op_add (pe_op op_mul (pe_ix ix_list (pv 0) pe_int (fun _ _ => rfl)) pe_int) (pv 3)) pa_nil)) pe_int) (pg_sub (pv 0) pe_int set_list))
      (pss_one (ps_ret (pe_op op_mod (pe_callTy call_int1 (by rfl) B.int (by decide +kernel) (pa_cons (pe_op op_fdiv (pe_op op_mod (pe_callTy call_int1 (by rfl) B.int (by decide +kernel) (pa_cons (pe_op op_mul (pe_ix ix_list (pv 0) pe_int (fun _ _ => rfl)) pe_int) pa_nil)) pe_int) pe_int) pa_nil)) (pv 1)))))))), ?_⟩
    have box : ∀ (i' pd' st' : Int), 0 ≤ i' → 0 ≤ pd' → 0 ≤ st' → st' < 2147483647 → BoxAt (upd H b (.lst [.ref c, .int i', .int pd', .int st'])) b c := fun i' pd' st' a1 a2 a3 a4 =>
      ⟨cs, i', pd', st', upd_same, by rw [upd_ne ncb]; exact hc, ncb, a1, a2, a3, a4, c0⟩
    have at0 : ∀ (x y z u : V), atI [x, y, z, u] 0 = some x := fun _ _ _ _ => rfl
    have at1 : ∀ (x y z u : V), atI [x, y, z, u] 1 = some y := fun _ _ _ _ => rfl
    have at2 : ∀ (x y z u : V), atI [x, y, z, u] 2 = some z := fun _ _ _ _ => rfl
    have at3 : ∀ (x y z u : V), atI [x, y, z, u] 3 = some u := fun _ _ _ _ => rfl
    refine ⟨_, rfl, b, _, 2, _, rfl, rfl, SqL.of hb, at2 _ _ _ _, _, _, rfl, rfl, _, rfl, ?_⟩
    refine ite2 (fun q => ?_) (fun q => ?_)
    · -- a digit of what is held back
      refine ⟨_, rfl, b, _, 2, _, rfl, rfl, SqL.of hb, at2 _ _ _ _, .inl ⟨_, rfl, _, rfl, _, _, rfl, rfl, m0, ?_⟩⟩
      refine ⟨_, rfl, b, _, 2, _, rfl, rfl, SqL.of hb, at2 _ _ _ _, _, rfl, _, _, rfl, rfl, ⟨m0, m1⟩, ?_⟩
      refine ⟨_, rfl, b, _, 2, 2, rfl, rfl, hb, rfl, ?_⟩
      refine ⟨_, rfl, ?_⟩
      have h1 := Int.emod_nonneg pd (by omega : m ≠ 0)
      have h2 := Int.emod_lt_of_pos pd m0
      obtain ⟨r, hr'⟩ := Int.eq_ofNat_of_zero_le h1
      have z := k r _ (by omega) (box i (pd / m) st i0 (Int.ediv_nonneg p0 (by omega)) s0 s1) (by rw [off_upd]; exact Same.refl _)
      rw [← hr'] at z
      exact z
    · refine ⟨fun σ' H' => ∃ (i' cell : Int), σ' = [some (.ref b), some (.int m), none, some (.int cell)] ∧ 0 ≤ i' ∧ 0 ≤ cell ∧ H' b = some (.lst [.ref c, .int i', .int pd, .int st]) ∧ Same (off b H) (off b H'), ?_, ?_⟩
      · refine ⟨_, rfl, b, _, 1, _, rfl, rfl, SqL.of hb, at1 _ _ _ _, ?_⟩
        refine ⟨_, rfl, b, _, 0, _, rfl, rfl, SqL.of hb, at0 _ _ _ _, c, _, rfl, .inl (SqL.of hc), _, _, rfl, rfl, _, rfl, ?_⟩
        refine ite2 (fun q => ?_) (fun q => ⟨i, 0, rfl, i0, by decide, hb, Same.refl _⟩)
        rw [decide_eq_true_iff, vI_len] at q
        obtain ⟨i1, rfl⟩ := Int.eq_ofNat_of_zero_le i0
        obtain ⟨x, hx⟩ : ∃ x, cs[i1]? = some x := ⟨_, List.getElem?_eq_getElem (by omega)⟩
        have hxv : (vI cs)[i1]? = some (.int x) := by unfold vI; rw [List.getElem?_map, hx]; rfl
        refine ⟨_, rfl, b, _, 0, _, rfl, rfl, SqL.of hb, at0 _ _ _ _, ?_⟩
        refine ⟨_, rfl, b, _, 1, _, rfl, rfl, SqL.of hb, at1 _ _ _ _, c, _, _, _, rfl, rfl, SqL.of hc, atI_nat hxv, ?_⟩
        refine ⟨_, rfl, b, _, 1, _, rfl, rfl, SqL.of hb, at1 _ _ _ _, _, _, rfl, rfl, ?_⟩
        refine ⟨_, rfl, b, _, 1, 1, rfl, rfl, hb, rfl, ?_⟩
        exact ⟨(i1 : Int) + 1, x, rfl, by omega, c0 x (List.mem_of_getElem? hx), upd_same, by rw [off_upd]; exact Same.refl _⟩
      · rintro σ' H' ⟨i', cell, rfl, j0, c1, hb', so⟩
        have hc' : H' c = some (.lst (vI cs)) := off_le _ _ (so _ _ (by rw [off_ne ncb]; exact hc))
        have box : ∀ (i' pd' st' : Int), 0 ≤ i' → 0 ≤ pd' → 0 ≤ st' → st' < 2147483647 → BoxAt (upd H' b (.lst [.ref c, .int i', .int pd', .int st'])) b c := fun i' pd' st' a1 a2 a3 a4 =>
          ⟨cs, i', pd', st', upd_same, by rw [upd_ne ncb]; exact hc', ncb, a1, a2, a3, a4, c0⟩
        refine ⟨_, rfl, _, _, rfl, rfl, ⟨by decide, by decide, by decide⟩, _, _, rfl, rfl, _, rfl, ?_⟩
        refine ite2 (fun q => ?_) (fun q => ?_)
        · refine ⟨_, rfl, _, rfl, _, _, rfl, rfl, ⟨m0, m1⟩, ?_⟩
          refine ⟨_, rfl, b, _, 2, 2, rfl, rfl, hb', rfl, ?_⟩
          refine ⟨_, rfl, .inl ⟨_, rfl, _, rfl, _, _, rfl, rfl, m0, ?_⟩⟩
          have h1 := Int.emod_nonneg cell (by omega : m ≠ 0)
          have h2 := Int.emod_lt_of_pos cell m0
          obtain ⟨r, hr'⟩ := Int.eq_ofNat_of_zero_le h1
          have z := k r _ (by omega) (box i' (cell / m) st j0 (Int.ediv_nonneg c1 (by omega)) s0 s1) (by rw [off_upd]; exact so)
          rw [← hr'] at z
          exact z
        · refine ⟨_, rfl, b, _, 3, _, rfl, rfl, SqL.of hb', at3 _ _ _ _, _, _, rfl, rfl, .inl ⟨by omega, by omega⟩, ?_⟩
          refine ⟨_, rfl, _, _, rfl, rfl, .inl ⟨_, rfl, _, _, rfl, rfl, (by show (0 : Int) < 2147483647; decide), ?_⟩⟩
          refine ⟨_, rfl, b, _, 3, 3, rfl, rfl, hb', rfl, ?_⟩
          have h1 := Int.emod_nonneg (st * 48271 + cell) (by decide : (2147483647 : Int) ≠ 0)
          have h2 := Int.emod_lt_of_pos (st * 48271 + cell) (by decide : (0 : Int) < 2147483647)
          have bx := box i' pd ((st * 48271 + cell) % 2147483647) j0 p0 h1 h2
          have eb : (upd H' b (.lst [.ref c, .int i', .int pd, .int ((st * 48271 + cell) % 2147483647)])) b = some (.lst [.ref c, .int i', .int pd, .int ((st * 48271 + cell) % 2147483647)]) := upd_same
          have so2 : Same (off b H) (off b (upd H' b (.lst [.ref c, .int i', .int pd, .int ((st * 48271 + cell) % 2147483647)]))) := by rw [off_upd]; exact so
          refine ⟨_, rfl, b, _, 3, _, rfl, rfl, SqL.of eb, at3 _ _ _ _, _, _, rfl, rfl, .inl ⟨by omega, by omega⟩, .inl ⟨_, rfl, _, _, rfl, rfl, (by show (0 : Int) < 2147483629; decide), _, _, rfl, rfl, ⟨by decide, by decide⟩, .inl ⟨_, rfl, _, rfl, _, _, rfl, rfl, m0, ?_⟩⟩⟩
          have h3 := Int.emod_nonneg ((st * 48271 + cell) % 2147483647 * 69621 % 2147483629 / 16) (by omega : m ≠ 0)
          have h4 := Int.emod_lt_of_pos ((st * 48271 + cell) % 2147483647 * 69621 % 2147483629 / 16) m0
          obtain ⟨r, hr'⟩ := Int.eq_ofNat_of_zero_le h3
          have z := k r _ (by omega) bx so2
          rw [← hr'] at z
          exact z
end
end Toy
namespace Toy
open PySem L2
/-! ### canonical lists of words -/
def Can (n : Nat) (ws : List Int) : Prop := asc ws n = ws
theorem asc_congr {a b : List Int} : ∀ {n : Nat}, (∀ j : Nat, j < n → (((j : Int) ∈ a) ↔ ((j : Int) ∈ b))) → asc a n = asc b n
  | 0, _ => rfl
  | n + 1, h => by
    rw [asc_succ, asc_succ, asc_congr (n := n) fun j hj => h j (by omega)]
    have q := h n (by omega)
    by_cases c : (n : Int) ∈ a
    · rw [if_pos c, if_pos (q.mp c)]
    · rw [if_neg c, if_neg fun z => c (q.mpr z)]
theorem asc_mem {ns : List Int} {n : Nat} {x : Int} (h : x ∈ asc ns n) : x ∈ ns ∧ 0 ≤ x ∧ x < (n : Int) := by
  unfold asc at h
  obtain ⟨i, hi, rfl⟩ := List.mem_map.mp h
  obtain ⟨h1, h2⟩ := List.mem_filter.mp hi
  have := List.mem_range.mp h1
  exact ⟨of_decide_eq_true h2, by omega, by omega⟩
theorem Can.mem {n : Nat} {ws : List Int} (c : Can n ws) {x : Int} (h : x ∈ ws) : 0 ≤ x ∧ x < (n : Int) := by
  have c' : asc ws n = ws := c
  rw [← c'] at h
  exact (asc_mem h).2
theorem Can.len {n : Nat} {ws : List Int} (c : Can n ws) : ws.length ≤ n := by
  have c' : asc ws n = ws := c
  rw [← c']
  exact asc_len _ _
theorem Can.skip {n : Nat} {ws : List Int} (c : Can n ws) : Can (n + 1) ws := by
  show asc ws (n + 1) = ws
  rw [asc_succ, if_neg fun h => by have := c.mem h; omega]
  exact c
theorem Can.add {n : Nat} {ws : List Int} (c : Can n ws) : Can (n + 1) (ws ++ [(n : Int)]) := by
  show asc (ws ++ [(n : Int)]) (n + 1) = _
  rw [asc_succ, if_pos (by simp)]
  have e : asc (ws ++ [(n : Int)]) n = asc ws n := asc_congr fun j hj => by
    have : ¬ ((j : Int) = (n : Int)) := by omega
    simp [this]
  rw [e, c]
theorem Can.one {n : Nat} {x : Nat} (h : x < n) : Can n [(x : Int)] := by
  induction n with
  | zero => omega
  | succ n ih =>
    by_cases e : x = n
    · subst e
      exact Can.add (n := x) (ws := []) (by
        show asc [] x = []
        unfold asc
        simp)
    · exact (ih (by omega)).skip
theorem Can.nil {n : Nat} : Can n [] := by
  show asc [] n = []
  unfold asc
  simp
theorem six : ∀ i : Nat, i < 6 → ∃ d : Int, ([V.int 1, V.int 2, V.int 4, V.int 8, V.int 16, V.int 32] : List V)[i]? = some (.int d) ∧ 0 < d ∧ d < 1073741824
  | 0, _ => ⟨1, rfl, by decide, by decide⟩
  | 1, _ => ⟨2, rfl, by decide, by decide⟩
  | 2, _ => ⟨4, rfl, by decide, by decide⟩
  | 3, _ => ⟨8, rfl, by decide, by decide⟩
  | 4, _ => ⟨16, rfl, by decide, by decide⟩
  | 5, _ => ⟨32, rfl, by decide, by decide⟩
  | i + 6, h => by omega
theorem seven : ∀ i : Nat, 1 ≤ i → i ≤ 6 → ∃ d : Int, ([V.int 1, V.int 2, V.int 4, V.int 8, V.int 16, V.int 32, V.int 64] : List V)[i]? = some (.int d) ∧ 2 ≤ d ∧ d ≤ 64
  | 0, h, _ => by omega
  | 1, _, _ => ⟨2, rfl, by decide, by decide⟩
  | 2, _, _ => ⟨4, rfl, by decide, by decide⟩
  | 3, _, _ => ⟨8, rfl, by decide, by decide⟩
  | 4, _, _ => ⟨16, rfl, by decide, by decide⟩
  | 5, _, _ => ⟨32, rfl, by decide, by decide⟩
  | 6, _, _ => ⟨64, rfl, by decide, by decide⟩
  | i + 7, _, h => by omega
def spWords : Sp := fun vs H Q _ => ∃ (b c : Addr) (n : Nat) (least : Int), vs = [.ref b, .int n, .int least] ∧ BoxAt H b c ∧ 1 ≤ n ∧ n ≤ 6 ∧ 0 ≤ least ∧ least ≤ 1 ∧
  ∀ H' l ws, BoxAt H' b c → Same (off b H) (off b H') → off b H l = none → off b H' l = some (.lst (vI ws)) → Can n ws → Q (.ref l) H'
structure Lt (K : PySem.W.Frag) (mg : Str → Option Value) : Prop where
  B : Bt mg
  take : ∃ f fd, Fun K "_law_take" "_law_take" sTake f fd ∧ mg "_law_take" = some (.ref f) ∧ Binds K fd ["_law_box_here", "_law_many"] []
  words : ∃ f fd, Fun K "_law_words" "_law_words" sWords f fd ∧ mg "_law_words" = some (.ref f) ∧ Binds K fd ["_law_box_here", "_law_n", "_law_least"] []
section
variable {P : Program} {w : World} {K : PySem.W.Frag} {mg : Str → Option Value} {base : Heap}
theorem scWords : FnScope ["_law_box_here", "_law_n", "_law_least", "_law_mask", "_law_word"] ["_law_box_here", "_law_n", "_law_least"] (defScope sWords) := ⟨rfl, rfl, rfl, by decide +kernel, rfl, by decide +kernel, by decide +kernel⟩
theorem off_free {b l : Addr} {H : Hp} (h : H l = none) : off b H l = none := by
  by_cases e : l = b
  · rw [e, off_at]
  · rw [off_ne e]; exact h
theorem ok_words {f : Addr} {fd : FuncData} (F : Fun K "_law_words" "_law_words" sWords f fd) (S : Lt K mg) : FnOk P w K mg base CX0 2 f fd ["_law_box_here", "_law_n", "_law_least"] spWords := by
  obtain ⟨fT, fdT, FT, mT, bT⟩ := S.take
  refine F.ok scWords (fun vs H Q E h => ?_) (fun cdv A outer s H vs Q E hr h => ?_)
  · obtain ⟨b, c, n, least, rfl, _⟩ := h
    rfl
  · obtain ⟨b, c, n, least, rfl, hb, n1, n6, l0, l1, k⟩ := h
    refine ⟨_, pss_cons (ps_set (i := 3) scWords.nd rfl (Or.inr rfl) (pe_op op_add (pv 2) (pe_call (ok_take FT S.B) hr rfl mT FT.kp bT .nil pass0 (pa_cons (pv 0) (pa_cons (pe_op op_sub
        (pe_ix ix_list (pe_lst (pa_cons pe_int (pa_cons pe_int (pa_cons pe_int (pa_cons pe_int (pa_cons pe_int (pa_cons pe_int (pa_cons pe_int pa_nil)))))))) (pv 1) (fun _ _ => rfl)) (pv 2)) pa_nil)))))
      (pss_one (ps_ret (pe_lc (own := [("_law_word", 4)]) (g := gName 4)
          (tt := tTest (tOp rEq (tOp (rI (fun _ j => 0 < j) fun i j => .int (i % j)) (tCB (fun xs H Q => (∃ i, xs = [.int i] ∧ Q (.int i) H) ∨ ∃ k, xs = [.bl k] ∧ Q (.int (if k then 1 else 0)) H) (tCons (tOp (rI CDiv fun i j => .int (i / j)) (tVar 3)
            (tOp (rIxL K) (tLst (tCons (tC (.int 1)) (tCons (tC (.int 2)) (tCons (tC (.int 4)) (tCons (tC (.int 8)) (tCons (tC (.int 16)) (tCons (tC (.int 32)) tNil))))))) (tVar 4))) tNil)) (tC (.int 2))) (tC (.int 1))))
          rfl scWords.nd (pi_range1 (by rfl) S.B.range (pa_cons (pv 1) pa_nil)) (blkOk_by (own := [("_law_word", 4)]) (N := ["_law_box_here", "_law_n", "_law_least", "_law_mask", "_law_word"]) (sc := defScope sWords) (by decide +kernel))
          (fun _ _ _ _ _ => pg_name (i := 4) scWords.nd rfl (Or.inl rfl))
          (fun _ _ _ _ _ => pts_one (pt_cmpR op_eq (pe_op op_mod (pe_callTy call_int1 (by rfl) S.B.int (by decide +kernel) (pa_cons (pe_op op_fdiv (pv 3)
            (pe_ix ix_list (pe_lst (pa_cons pe_int (pa_cons pe_int (pa_cons pe_int (pa_cons pe_int (pa_cons pe_int (pa_cons pe_int pa_nil))))))) (pv 4) (fun _ _ => rfl))) pa_nil)) pe_int) pe_int (nomark _)))
          (fun _ _ _ _ _ => pv 4)))), ?_⟩
    obtain ⟨d, hd, d2, d64⟩ := seven n n1 n6
    refine ⟨_, rfl, _, rfl, by show 7 ≤ sizeLine; decide, fun p hp => ?_⟩
    refine ⟨_, rfl, p, _, n, _, rfl, rfl, SqL.of upd_same, atI_nat hd, _, rfl, _, _, rfl, rfl, ?_⟩
    have pb := hb.ne hp
    have s0 := Same.new (H := H) (o := .lst [V.int 1, V.int 2, V.int 4, V.int 8, V.int 16, V.int 32, V.int 64]) hp
    refine ⟨b, c, d - least, rfl, hb.same s0, by omega, by omega, fun r H1 hr1 hb1 so1 => ?_⟩
    refine ⟨_, _, rfl, rfl, ?_⟩
    have so := L2.Same.trans (Same.off (b := b) s0) so1
    refine ⟨_, rfl, n, rfl, by omega, by omega, fun D hD => ?_⟩
    have nDb := hb1.ne hD
    have hDo : off b H D = none := so.free (off_free hD)
    refine lc_range (lo := 0) (n := n) (fun i H' => Same H1 H' ∧ ∃ ws, H' D = some (.lst (vI ws)) ∧ Can i ws) ⟨Same.new hD, [], upd_same, .nil⟩ ?_ ?_
    · rintro i H2 hi ⟨s2, ws, hd2, hc⟩
      obtain ⟨e, he, e0, e1⟩ := six i (by omega)
      refine ⟨rfl, ?_⟩
      refine ⟨_, rfl, by show 6 ≤ sizeLine; decide, fun q hq => ?_⟩
      have nDq : D ≠ q := ne_of_none hd2 hq
      have s3 := Same.new (H := H2) (o := .lst [V.int 1, V.int 2, V.int 4, V.int 8, V.int 16, V.int 32]) hq
      refine ⟨_, rfl, q, _, _, _, rfl, rfl, SqL.of upd_same, at_of (j := i) (by omega) he, _, _, rfl, rfl, ⟨e0, e1⟩, .inl ⟨_, rfl, _, _, rfl, rfl, (by show (0 : Int) < 2; decide), rfl, _, rfl, ?_⟩⟩
      refine ite2 (fun _ => ?_) (fun _ => ?_)
      · refine ⟨_, rfl, _, s3 _ _ hd2, ?_, Same.updN (s2.trans s3) hD, ws ++ [(i : Int)], ?_, hc.add⟩
        · rw [vI_len]
          exact Nat.lt_of_le_of_lt (Nat.le_trans hc.len (by omega : i ≤ 6)) (by decide)
        · rw [upd_same]
          unfold vI
          rw [List.map_append, Int.zero_add]
          rfl
      · exact ⟨s2.trans s3, ws, s3 _ _ hd2, hc.skip⟩
    · rintro H2 ⟨s2, ws, hd2, hc⟩
      exact k H2 D ws (hb1.same s2) (so.trans (Same.off s2)) hDo (by rw [off_ne nDb]; exact hd2) hc
end
end Toy
namespace Toy
open PySem L2
/-! ### data compared -/
/-! ### rows that are new -/
theorem RowsN.same {G0 G G' : Hp} {ls R} (s : Same G G') (h : RowsN G0 G ls R) : RowsN G0 G' ls R := L2.Paired.mapP h fun _ _ ⟨t, e, q, z⟩ => ⟨t, e, s _ _ q, z⟩
theorem RowsN.rows {G0 G : Hp} {ls R} (h : RowsN G0 G ls R) : RowsL G ls R := L2.Paired.mapP h fun _ _ ⟨t, e, q, z⟩ => ⟨t, e, q⟩
theorem RowsN.snoc {G0 G : Hp} {l t : Addr} {o : HO} {ls R r} (h : RowsN G0 G ls R) (nl : ∀ v ∈ ls, v ≠ .ref l) (ht : G t = some (.lst (vI r))) (h0 : G0 t = none) (n : t ≠ l) :
    RowsN G0 (upd G l o) (ls ++ [.ref t]) (R ++ [r]) ∧ ∀ v ∈ ls ++ [V.ref t], v ≠ .ref l := by
  refine ⟨L2.Paired.snoc ⟨t, rfl, by rw [upd_ne n]; exact ht, h0⟩ (PairedIn.map h fun v r hv ⟨t', e, q, z⟩ => ⟨t', e, ?_, z⟩), fun v hv => ?_⟩
  · rw [upd_ne fun z => nl v hv (by rw [e, z])]
    exact q
  · rcases List.mem_append.mp hv with hv | hv
    · exact nl v hv
    · rw [List.mem_singleton.mp hv]
      exact fun z => n (V.ref.inj z)
end Toy
namespace L2
open PySem PySem.Spec PyProof.Rows
section
variable {X : Cx} {CX : CXT} {k : Nat} {C f : Addr} {fd : FuncData} {ps : List Str} {sp : Sp} {E : XK} {a b : Expr} {ta tb : TE} {pos : Pos}
end
section
variable {X : Cx} {CX : CXT} {k : Nat} {C g : Addr} {sp : Sp} {E : XK} {fe e : Expr} {es : List Expr} {tf : TE} {t : TA} {pos : Pos}
end
end L2
namespace Toy
open PySem PySem.Spec PyProof.Rows L2
/-! ### equal lists of flat things -/
def flatD : V → PyData
  | .bl b => .bool b
  | .int i => .int i
  | .str s => .str s
  | _ => .none
def flatOk : V → Bool
  | .bl _ => true
  | .int _ => true
  | .str s => PyData.canLay0 (.str s)
  | .non => true
  | _ => false
theorem dpF {K : PySem.W.Frag} {H : Hp} : ∀ {v : V}, flatOk v = true → Dp K H v (flatD v)
  | .bl b, _ => .bl b
  | .int i, _ => .int i
  | .str s, _ => .str s
  | .non, _ => .non
theorem dpAllF {K : PySem.W.Frag} {H : Hp} : ∀ {xs : List V}, xs.all flatOk = true → DpAll K H xs (xs.map flatD)
  | [], _ => .nil
  | v :: r, h => by
    rw [List.all_cons, Bool.and_eq_true] at h
    exact .cons (dpF h.1) (dpAllF h.2)
theorem layF : ∀ {v : V}, flatOk v = true → PyData.canLay0 (flatD v) = true ∧ PyData.depth (flatD v) = 0
  | .bl b, _ => ⟨rfl, rfl⟩
  | .int i, _ => ⟨rfl, rfl⟩
  | .str s, h => ⟨h, rfl⟩
  | .non, _ => ⟨rfl, rfl⟩
theorem layAllF : ∀ {xs : List V}, xs.all flatOk = true → PyData.canLayAll0 (xs.map flatD) = true ∧ PyData.depthAll (xs.map flatD) = 0
  | [], _ => ⟨rfl, rfl⟩
  | v :: r, h => by
    rw [List.all_cons, Bool.and_eq_true] at h
    have ⟨a1, a2⟩ := layF h.1
    have ⟨b1, b2⟩ := layAllF h.2
    constructor
    · show (PyData.canLay0 (flatD v) && PyData.canLayAll0 (r.map flatD)) = true
      rw [a1, b1]
      rfl
    · show max (PyData.depth (flatD v)) (PyData.depthAll (r.map flatD)) = 0
      rw [a2, b2]
      rfl
theorem shF {xs : List V} (h : xs.all flatOk = true) : SeqAt.shaped (.list (xs.map flatD)) = true := by
  have ⟨a, b⟩ := layAllF h
  show (PyData.canLayAll0 (xs.map flatD) && decide (PyData.depthAll (xs.map flatD) + 1 ≤ 64)) = true
  rw [a, b]
  rfl
/-- two lists of the same flat things, asked by != in a test -/
theorem neF {K : PySem.W.Frag} {H : Hp} {p q : Addr} {xs : List V} {R : Bool → Hp → Prop} (hp : H p = some (.lst xs)) (hq : H q = some (.lst xs)) (ok : xs.all flatOk = true) (h : R false H) : rNeD K (.ref p) (.ref q) H fun v H' => ∃ k, v = .bl k ∧ R k H' := by
  refine ⟨_, _, .lst (SqL.of hp) (dpAllF ok), .lst (SqL.of hq) (dpAllF ok), shF ok, shF ok, _, rfl, ?_⟩
  rw [SeqAt.eqv_refl _ (SeqAt.canLay_of_shaped (shF ok))]
  exact h
/-! ### parts of a list -/
theorem vI_app (x y : List Int) : vI x ++ vI y = vI (x ++ y) := by unfold vI; rw [List.map_append]
end Toy
namespace L2
open PySem PySem.Spec PyProof.Rows
section
variable {X : Cx} {CX : CXT} {k : Nat} {C f : Addr} {fd : FuncData} {ps : List Str} {sp : Sp} {E : XK}
end
end L2
namespace Toy
open PySem L2
section
variable {P : Program} {w : World} {K : PySem.W.Frag} {mg : Str → Option Value} {base : Heap}
end
end Toy
namespace Toy
open PySem L2
theorem Tab.off {C b c : Addr} {H : Hp} {p : Addr} {R} (h : Tab C H p R) (hb : BoxAt H b c) : Tab C (Toy.off b H) p R := by
  obtain ⟨dx, tr, tp, ts, qs, h1, h2, h3, h4, h5, h6, h7⟩ := h
  obtain ⟨cs, i, pd, st, e, _⟩ := hb
  have ne : ∀ {a : Addr} {o : HO}, H a = some o → o ≠ .lst [.ref c, .int i, .int pd, .int st] → Toy.off b H a = some o := fun q d => by rw [off_ne (ne_of q e d)]; exact q
  exact ⟨dx, tr, tp, ts, qs, ne h1 (fun z => nomatch z), ne h2 (fun z => nomatch z), ne h3 (fun z => nomatch z), L2.Paired.mapP h4 fun _ _ ⟨t, e, q⟩ => ⟨t, e, ne q (fun z => nomatch z)⟩, ne h5 (fun z => nomatch z), L2.Paired.mapP h6 fun _ _ ⟨t, e, q⟩ => ⟨t, e, ne q (fun z => nomatch z)⟩, h7⟩
theorem Paired.mem {α β : Type} {F : α → β → Prop} {xs : List α} {ys : List β} (h : Paired F xs ys) {x : α} (m : x ∈ xs) : ∃ y, y ∈ ys ∧ F x y := by
  obtain ⟨i, hi⟩ := List.mem_iff_getElem?.mp m
  obtain ⟨y, hy, f⟩ := L2.Paired.at h hi
  exact ⟨y, List.mem_of_getElem? hy, f⟩
theorem BoxAt.keep {H H' : Hp} {b c x : Addr} (h : BoxAt H b c) (hx : H x = none) (k : ∀ q o, q ≠ x → H q = some o → H' q = some o) : BoxAt H' b c :=
  h.same fun q o e => k q o (ne_of_none e hx) e
def spLaw (K : PySem.W.Frag) : Sp := fun vs H Q _ => ∃ (a : Addr) (ns : List Int), vs = [.ref a] ∧ SqL K H a (ns.map V.int) ∧ ns.length ≤ 63 ∧ ∀ H', Q (.bl true) H'
end Toy
namespace L2
open PySem PySem.Spec PyProof.Rows
end L2
namespace Toy
open PySem L2
/-! ### the words below n of which p holds -/
def filt (n : Nat) (p : Nat → Bool) : List Int := ((List.range n).filter p).map fun (i : Nat) => (i : Int)
theorem filt_succ (n : Nat) (p : Nat → Bool) : filt (n + 1) p = if p n = true then filt n p ++ [(n : Int)] else filt n p := by
  unfold filt
  rw [List.range_succ, List.filter_append]
  by_cases h : p n = true
  · rw [if_pos h]
    simp [h]
  · rw [if_neg h]
    simp [h]
theorem filt_yes {n : Nat} {p : Nat → Bool} (h : p n = true) : filt (n + 1) p = filt n p ++ [(n : Int)] := by rw [filt_succ, if_pos h]
theorem filt_no {n : Nat} {p : Nat → Bool} (h : p n = false) : filt (n + 1) p = filt n p := by rw [filt_succ, if_neg (by rw [h]; exact Bool.false_ne_true)]
theorem filt_len (n : Nat) (p : Nat → Bool) : (filt n p).length ≤ n := by
  unfold filt
  rw [List.length_map]
  exact Nat.le_trans (List.length_filter_le _ _) (by simp)
/-- a row of a table -/
def row (R : List (List Int)) (j : Nat) : List Int := R.getD j []
theorem row_of {R : List (List Int)} {j : Nat} {r : List Int} (h : R[j]? = some r) : row R j = r := by
  unfold row
  rw [List.getD_eq_getElem?_getD, h]
  rfl
theorem at_row {R : List (List Int)} {j : Nat} (h : j < R.length) : R[j]? = some (row R j) := by
  unfold row
  rw [List.getD_eq_getElem?_getD, List.getElem?_eq_getElem h]
  rfl
/-- ~ -/
def inv (R : List (List Int)) : List (List Int) := (List.range R.length).map fun (w : Nat) => filt R.length fun t => decide ((w : Int) ∈ row R t)
def CanR (n : Nat) (R : List (List Int)) : Prop := R.length = n ∧ ∀ r ∈ R, Can n r
theorem CanR.row {n : Nat} {R : List (List Int)} (c : CanR n R) {j : Nat} (h : j < n) : Can n (row R j) := c.2 _ (List.mem_of_getElem? (at_row (by rw [c.1]; exact h)))
theorem map_row {R : List (List Int)} {f : List Int → List Int} {j : Nat} (h : j < R.length) : row (R.map f) j = f (row R j) := by
  refine row_of ?_
  rw [List.getElem?_map, at_row h]
  rfl
end Toy
namespace Toy
open PySem L2
theorem RowsL.snoc {G : Hp} {l t : Addr} {o : HO} {ls R r} (h : RowsL G ls R) (nl : ∀ v ∈ ls, v ≠ .ref l) (ht : G t = some (.lst (vI r))) (n : t ≠ l) :
    RowsL (upd G l o) (ls ++ [.ref t]) (R ++ [r]) ∧ ∀ v ∈ ls ++ [V.ref t], v ≠ .ref l := by
  refine ⟨L2.Paired.snoc ⟨t, rfl, by rw [upd_ne n]; exact ht⟩ (PairedIn.map h fun v r hv ⟨t', e, q⟩ => ⟨t', e, ?_⟩), fun v hv => ?_⟩
  · rw [upd_ne fun z => nl v hv (by rw [e, z])]
    exact q
  · rcases List.mem_append.mp hv with hv | hv
    · exact nl v hv
    · rw [List.mem_singleton.mp hv]
      exact fun z => n (V.ref.inj z)
section
variable {P : Program} {w : World} {K : PySem.W.Frag} {mg : Str → Option Value} {base : Heap}
end
end Toy
namespace Toy
open PySem L2
section
variable {P : Program} {w : World} {K : PySem.W.Frag} {mg : Str → Option Value} {base : Heap}
end
end Toy
namespace Toy
open PySem L2
section
variable {P : Program} {w : World} {K : PySem.W.Frag} {mg : Str → Option Value} {base : Heap}
end
end Toy
namespace Toy
open PySem L2
/-- what list(x) asks -/
abbrev rLst (K : PySem.W.Frag) : List V → Hp → VK → Prop := fun xs H Q => ∃ p ys, xs = [.ref p] ∧ (SqL K H p ys ∨ SqT K H p ys) ∧ ∀ l, H l = none → Q (.ref l) (upd H l (.lst ys))
end Toy
namespace Toy
open PySem L2
/-! ### the mathematics -/
theorem prs_mem : ∀ {k : Nat} {R : List (List Int)} {p : Int × Int}, p ∈ prs k R ↔ ∃ j : Nat, j < R.length ∧ p.1 = ((k + j : Nat) : Int) ∧ p.2 ∈ row R j
  | k, [], p => by simp [prs]
  | k, r :: R, p => by
    rw [show prs k (r :: R) = r.map (fun x => ((k : Int), x)) ++ prs (k + 1) R from rfl, List.mem_append, prs_mem (k := k + 1)]
    constructor
    · rintro (h | ⟨j, h1, h2, h3⟩)
      · obtain ⟨x, hx, rfl⟩ := List.mem_map.mp h
        exact ⟨0, by simp, by simp, by rw [row_of (r := r) rfl]; exact hx⟩
      · refine ⟨j + 1, by simp; omega, by rw [h2]; congr 1; omega, ?_⟩
        have e : row (r :: R) (j + 1) = row R j := by unfold row; simp
        rw [e]
        exact h3
    · rintro ⟨j, h1, h2, h3⟩
      cases j with
      | zero =>
        left
        rw [row_of (r := r) rfl] at h3
        exact List.mem_map.mpr ⟨p.2, h3, by rw [Nat.add_zero] at h2; rw [← h2]⟩
      | succ j =>
        right
        have e : row (r :: R) (j + 1) = row R j := by unfold row; simp
        rw [e] at h3
        exact ⟨j, by simp at h1; omega, by rw [h2]; congr 1; omega, h3⟩
def le (R W : List (List Int)) : Bool := (prs 0 R).all fun p => decide (p ∈ prs 0 W)
theorem le_iff {n : Nat} {R W : List (List Int)} (hR : R.length = n) (hW : W.length = n) : le R W = true ↔ ∀ j, j < n → ∀ x ∈ row R j, x ∈ row W j := by
  unfold le
  rw [List.all_eq_true]
  constructor
  · intro h j hj x hx
    have q := of_decide_eq_true (h ((j : Int), x) (prs_mem.mpr ⟨j, by omega, by simp, hx⟩))
    obtain ⟨i, hi, e, hx'⟩ := prs_mem.mp q
    have : i = j := by
      have : ((j : Nat) : Int) = ((0 + i : Nat) : Int) := e
      omega
    subst this
    exact hx'
  · intro h p hp
    obtain ⟨j, hj, e, hx⟩ := prs_mem.mp hp
    exact decide_eq_true (prs_mem.mpr ⟨j, by omega, e, h j (by omega) _ hx⟩)
theorem le_refl {n : Nat} {R : List (List Int)} (h : R.length = n) : le R R = true := (le_iff h h).mpr fun _ _ _ hx => hx
end Toy
namespace Toy
open PySem PySem.Spec PyProof.Rows L2
abbrev sPerson : Stmt := top 33
abbrev sPInit : Stmt := inClass sPerson 0
/-- the attributes of a person -/
def pf (n : Nat) (lh lk : Addr) : List (Str × V) := [("size", V.int n), ("_hears", V.ref lh), ("_says", V.ref lk)]
theorem sh_ : ¬ (("size" : Str) = "_hears") := by decide +kernel
theorem sy_ : ¬ (("size" : Str) = "_says") := by decide +kernel
theorem hy_ : ¬ (("_hears" : Str) = "_says") := by decide +kernel
theorem pf_2 (n : Nat) (lh : Addr) : putF "_hears" (.ref lh) ([("size", V.int n)] : List (Str × V)) = ([("size", V.int n), ("_hears", V.ref lh)] : List (Str × V)) := by
  show (if ("size" : Str) = "_hears" then [(("size" : Str), V.ref lh)] else (("size" : Str), V.int n) :: putF "_hears" (V.ref lh) []) = _
  rw [if_neg sh_]
  rfl
theorem pf_3 (n : Nat) (lh lk : Addr) : putF "_says" (.ref lk) ([("size", V.int n), ("_hears", V.ref lh)] : List (Str × V)) = pf n lh lk := by
  show (if ("size" : Str) = "_says" then _ else (("size" : Str), V.int n) :: (if ("_hears" : Str) = "_says" then _ else (("_hears" : Str), V.ref lh) :: putF "_says" (V.ref lk) [])) = pf n lh lk
  rw [if_neg sy_, if_neg hy_]
  rfl
theorem pf_size (n : Nat) (lh lk : Addr) : (pf n lh lk).lookup ("size" : Str) = some (.int n) := by simp [pf, List.lookup]
/-- a person stands at p: what it hears, what it says; behind them the attributes ext -/
def Per (C : Addr) (ext : List (Str × V)) (H : Hp) (p : Addr) (ws : List Int) (L : List (List Int)) : Prop :=
  ∃ (dx lh lk : Addr) (ks : List V), H p = some (.ins C dx (pf ws.length lh lk ++ ext)) ∧ H dx = some (.own p) ∧ H lh = some (.lst (vI ws)) ∧ H lk = some (.lst ks) ∧ RowsL H ks L ∧
    L.length = ws.length ∧ 1 ≤ ws.length ∧ ws.length ≤ 6 ∧ (∀ x ∈ ws, isW ws.length x = true) ∧ ∀ r ∈ L, Can ws.length r
theorem Per.same {C : Addr} {ext : List (Str × V)} {H H' : Hp} {p : Addr} {ws L} (s : Same H H') (h : Per C ext H p ws L) : Per C ext H' p ws L := by
  obtain ⟨dx, lh, lk, ks, h1, h2, h3, h4, h5, h6⟩ := h
  exact ⟨dx, lh, lk, ks, s _ _ h1, s _ _ h2, s _ _ h3, s _ _ h4, RowsL.same s h5, h6⟩
def spPInit (K : PySem.W.Frag) (C : Addr) : Sp := fun vs H Q _ => ∃ (p dx l1 l2 : Addr) (hs : List Int) (ls : List V) (G : List (List Int)), vs = [.ref p, .ref l1, .ref l2] ∧ H p = some (.ins C dx []) ∧ H dx = some (.own p) ∧ H l1 = some (.lst (vI hs)) ∧ H l2 = some (.lst ls) ∧ RowsL H ls G ∧
  1 ≤ hs.length ∧ hs.length ≤ 6 ∧ G.length = hs.length ∧ hs.all (isW hs.length) = true ∧ (∀ g ∈ G, 1 ≤ g.length ∧ g.length < sizeLine ∧ g.all (isW hs.length) = true) ∧
  ∀ H' lh lk ks, (∀ b o, b ≠ p → H b = some o → H' b = some o) → H' p = some (.ins C dx (pf hs.length lh lk)) → H lh = none → H' lh = some (.lst (vI hs)) → H lk = none → H' lk = some (.lst ks) → RowsN H H' ks (G.map fun g => asc g hs.length) → Q .non H'
structure PT (K : PySem.W.Frag) (mg : Str → Option Value) (C : Addr) : Prop where
  cl : Cls K C
  nS : NoAttr K C "size"
  nH : NoAttr K C "_hears"
  nY : NoAttr K C "_says"
abbrev rLen (K : PySem.W.Frag) : List V → Hp → VK → Prop := fun xs H Q => ∃ p ys, xs = [V.ref p] ∧ (SqL K H p ys ∨ SqT K H p ys) ∧ Q (V.int (ys.length : Nat)) H
section
variable {P : Program} {w : World} {K : PySem.W.Frag} {mg : Str → Option Value} {base : Heap}
abbrev NPi : List Str := ["self", "hears", "says", "size", "words"]
theorem scPInit : FnScope NPi ["self", "hears", "says"] (defScope sPInit) := ⟨rfl, rfl, rfl, by decide +kernel, rfl, by decide +kernel, by decide +kernel⟩
theorem ok_pInit {f C Ct : Addr} {fd : FuncData} (F : Fun K "__init__" "Person.__init__" sPInit f fd) (S : Gs K mg Ct) (T : PT K mg C) : FnOk P w K mg base CX0 3 f fd ["self", "hears", "says"] (spPInit K C) := by
  obtain ⟨fW, fdW, FW, mW, bW⟩ := S.isW_
  obtain ⟨fA, fdA, FA, mA, bA⟩ := S.allW
  obtain ⟨fI, fdI, FI, mI, bI⟩ := S.isS
  obtain ⟨fS, fdS, FS, mS, bS⟩ := S.asc
  refine F.ok scPInit (fun vs H Q E h => ?_) (fun cdv A outer s H vs Q E hr h => ?_)
  · obtain ⟨p, dx, l1, l2, hs, ls, G, rfl, _⟩ := h
    rfl
  · obtain ⟨p, dx, l1, l2, hs, ls, G, rfl, hp, hdx, hl1, hl2, hR, n1, n6, eG, hall, gG, k⟩ := h
    have hr1 : Room 1 _ := hr.mono (by decide)
    have hr2 : Room 2 _ := hr.mono (by decide)
    refine ⟨_, pss_cons (ps_set (i := 3) scPInit.nd rfl (Or.inr rfl) (pe_callB call_len_seq (by rfl) S.B.len PySem.boot_len (pa_cons (pv 1) pa_nil)))
      (pss_cons (ps_if (PW.pt (pw_or (pt_not (pt_val (pe_call (ok_isSize FI S.T) hr1 rfl mI FI.kp bI .nil pass0 (pa_cons (pv 3) pa_nil)))) (pw_or1 (pt_not (pt_val (pe_call (ok_allWords FA S.B FW mW bW) hr2 rfl mA FA.kp bA .nil pass0 (pa_cons (pv 1) (pa_cons (pv 3) pa_nil)))))))) (pss_one ps_never) pss_nil)
      (pss_cons (ps_if (PW.pt (pw_or (pt_cmpR op_ne (pe_callB call_len_seq (by rfl) S.B.len PySem.boot_len (pa_cons (pv 2) pa_nil)) (pv 3) (nomark _)) (pw_or1 (pt_not (pt_val (pe_callB (cr_all rfl) (by rfl) S.B.all (by decide +kernel) (pa_cons
          (pe_lc (own := [("words", 4)]) (g := gName 4) (tt := tYes) rfl scPInit.nd (pi_list (pv 2)) (blkOk_by (own := [("words", 4)]) (N := NPi) (sc := defScope sPInit) (by decide +kernel))
            (fun _ _ _ _ _ => pg_name (i := 4) scPInit.nd rfl (Or.inl rfl)) (fun _ _ _ _ _ => pts_nil)
            (fun _ _ _ _ _ => pe_and (pe_cmpR op_ge (pe_callB (show CallR _ _ (rLen K) from call_len_seq) (by rfl) S.B.len PySem.boot_len (pa_cons (pv 4) pa_nil)) pe_int (nomark _)) (pe_one (pe_call (ok_allWords FA S.B FW mW bW) hr2 rfl mA FA.kp bA .nil pass0 (pa_cons (pv 4) (pa_cons (pv 3) pa_nil)))))) pa_nil))))))) (pss_one ps_never) pss_nil)
      (pss_cons (ps_fld (pv 0) (pv 3) rfl)
      (pss_cons (ps_fld (pv 0) (pe_callTy call_list_of (by rfl) S.B.list (by decide +kernel) (pa_cons (pv 1) pa_nil)) rfl)
      (pss_one (ps_fld (pv 0) (pe_lc (own := [("words", 4)]) (g := gName 4) (tt := tYes) (te := tCall (spAsc K) [] E0 (tCons (tVar 4) (tCons (tVar 3) tNil))) rfl scPInit.nd (pi_list (pv 2)) (blkOk_by (own := [("words", 4)]) (N := NPi) (sc := defScope sPInit) (by decide +kernel))
            (fun _ _ _ _ _ => pg_name (i := 4) scPInit.nd rfl (Or.inl rfl)) (fun _ _ _ _ _ => pts_nil)
            (fun _ _ _ _ _ => pe_call (ok_asc FS S.B) hr1 rfl mS FS.kp bS .nil pass0 (pa_cons (pv 4) (pa_cons (pv 3) pa_nil)))) rfl)))))), ?_⟩
    have el : ls.length = G.length := Paired.length hR
    have hl : (vI hs).length = hs.length := vI_len hs
    refine ⟨_, rfl, l1, _, rfl, .inl (SqL.of hl1), ?_⟩
    rw [hl]
    refine ⟨_, rfl, (hs.length : Int), rfl, _, rfl, ?_⟩
    rw [decide_eq_true (by omega : (1 : Int) ≤ hs.length), decide_eq_true (by omega : (hs.length : Int) ≤ 6)]
    refine iteF ⟨_, rfl, _, rfl, l1, hs, hs.length, rfl, SqL.of hl1, Nat.lt_of_le_of_lt n6 (by decide), fun H1 s1 => ⟨_, rfl, ?_⟩⟩
    rw [hall]
    refine iteF ?_
    refine ⟨_, rfl, l2, ls, rfl, .inl (SqL.of (s1 _ _ hl2)), _, rfl, rfl, _, rfl, iteNS (by rw [el, eG]) ?_⟩
    refine ⟨_, rfl, l2, rfl, ⟨_, SqL.of (s1 _ _ hl2)⟩, fun D hD => ?_⟩
    refine lc_list (K := K) (a := l2) (xs := ls) (fun i H' => Same H1 H' ∧ H' D = some (.lst ((List.replicate i true).map V.bl))) ⟨Same.new hD, upd_same⟩ (fun i H' _ ⟨s, _⟩ => SqL.of ((s1.trans s) _ _ hl2)) ?_ ?_
    · rintro i y H2 hi ⟨s2, hd⟩
      obtain ⟨g, hg, t, rfl, ht⟩ := L2.Paired.at (RowsL.same (s1.trans s2) hR) hi
      obtain ⟨g1, gl, ga⟩ := gG g (List.mem_of_getElem? hg)
      have il : i < G.length := (List.getElem?_eq_some_iff.mp hg).1
      refine ⟨rfl, yesT (iteT ?_)⟩
      refine ⟨_, rfl, t, _, rfl, .inl (SqL.of ht), _, _, rfl, rfl, _, rfl, ?_⟩
      rw [vI_len, decide_eq_true (by omega : (1 : Int) ≤ (g.length : Int))]
      refine iteT ⟨_, rfl, _, rfl, t, g, hs.length, rfl, SqL.of ht, gl, fun H3 s3 => ?_⟩
      rw [ga]
      refine ⟨_, s3 _ _ hd, ?_, Same.updN (s2.trans s3) hD, ?_⟩
      · rw [List.length_map, List.length_replicate]
        exact Nat.lt_of_le_of_lt (by omega : i ≤ 6) (by decide)
      · rw [upd_same, List.replicate_succ', List.map_append]
        rfl
    rintro H2 ⟨s2, hd⟩
    refine ⟨D, List.replicate ls.length true, rfl, SqL.of hd, ?_⟩
    refine ⟨_, rfl, ?_⟩
    rw [show (List.replicate ls.length true).all id = true by rw [List.all_eq_true]; intro b hb; exact (List.mem_replicate.mp hb).2]
    refine iteF ?_
    have s12 := s1.trans s2
    -- the attributes
    refine ⟨_, rfl, _, rfl, p, C, dx, [], rfl, s12 _ _ hp, T.cl, T.nS, (by show 0 < 1000; decide), ?_⟩
    rw [tf_1]
    generalize hHa : upd H2 p (.ins C dx [(("size" : Str), V.int (hs.length : Int))]) = Ha
    have kA : ∀ b o, b ≠ p → H b = some o → Ha b = some o := fun b o ne e => by rw [← hHa, upd_ne ne]; exact s12 _ _ e
    have fA : ∀ b, Ha b = none → H b = none := fun b e => by
      cases z : H b with
      | none => rfl
      | some o =>
        by_cases ne : b = p
        · subst ne
          rw [← hHa, upd_same] at e
          cases e
        · rw [kA b o ne z] at e
          cases e
    have pA : Ha p = some (.ins C dx [(("size" : Str), V.int (hs.length : Int))]) := by rw [← hHa, upd_same]
    have np1 : l1 ≠ p := ne_of hl1 hp (fun z => nomatch z)
    have np2 : l2 ≠ p := ne_of hl2 hp (fun z => nomatch z)
    have l1A := kA _ _ np1 hl1
    have l2A := kA _ _ np2 hl2
    have RA : RowsL Ha ls G := L2.Paired.mapP hR fun _ _ ⟨t, e, q⟩ => ⟨t, e, kA _ _ (ne_of q hp (fun z => nomatch z)) q⟩
    -- self._hears = list(hears)
    refine ⟨_, rfl, l1, _, rfl, .inl (SqL.of l1A), fun lh hlh => ?_⟩
    have sB := Same.new (H := Ha) (o := .lst (vI hs)) hlh
    have hB : upd Ha lh (.lst (vI hs)) lh = some (.lst (vI hs)) := upd_same
    generalize upd Ha lh (.lst (vI hs)) = Hb at sB hB
    refine ⟨_, rfl, p, C, dx, _, rfl, sB _ _ pA, T.cl, T.nH, (by show 1 < 1000; decide), ?_⟩
    rw [pf_2]
    have pB := sB _ _ pA
    have nlh : lh ≠ p := ne_of hB pB (fun z => nomatch z)
    generalize hHc : upd Hb p (.ins C dx [(("size" : Str), V.int (hs.length : Int)), (("_hears" : Str), V.ref lh)]) = Hc
    have kC : ∀ b o, b ≠ p → Hb b = some o → Hc b = some o := fun b o ne e => by rw [← hHc, upd_ne ne]; exact e
    have pC : Hc p = some (.ins C dx [(("size" : Str), V.int (hs.length : Int)), (("_hears" : Str), V.ref lh)]) := by rw [← hHc, upd_same]
    have kHC : ∀ b o, b ≠ p → H b = some o → Hc b = some o := fun b o ne e => kC _ _ ne (sB _ _ (kA _ _ ne e))
    have fC : ∀ b, Hc b = none → H b = none := fun b e => by
      cases z : H b with
      | none => rfl
      | some o =>
        by_cases ne : b = p
        · subst ne
          rw [pC] at e
          cases e
        · rw [kHC b o ne z] at e
          cases e
    have lhC := kC _ _ nlh hB
    have l2C := kHC _ _ np2 hl2
    have RC : RowsL Hc ls G := L2.Paired.mapP hR fun _ _ ⟨t, e, q⟩ => ⟨t, e, kHC _ _ (ne_of q hp (fun z => nomatch z)) q⟩
    -- self._says = [ascending(words, size) for words in says]
    refine ⟨_, rfl, l2, rfl, ⟨_, SqL.of l2C⟩, fun D2 hD2 => ?_⟩
    refine lc_list (K := K) (a := l2) (xs := ls) (fun i H' => Same Hc H' ∧ ∃ ks, H' D2 = some (.lst ks) ∧ RowsN Hc H' ks ((G.take i).map fun g => asc g hs.length) ∧ ∀ v ∈ ks, v ≠ .ref D2) ⟨Same.new hD2, [], upd_same, .nil, fun _ h => by cases h⟩ (fun i H' _ ⟨s, _⟩ => SqL.of (s _ _ l2C)) ?_ ?_
    · rintro i y H3 hi ⟨s3, ks, hk, hKs, nD⟩
      obtain ⟨g, hg, t, rfl, ht⟩ := L2.Paired.at (RowsL.same s3 RC) hi
      refine ⟨rfl, yesT (iteT ?_)⟩
      refine ⟨_, rfl, _, rfl, t, g, hs.length, rfl, .inl (SqL.of ht), n6, fun H4 q s4 hq0 hq => ?_⟩
      have nq : q ≠ D2 := (ne_of_none hk hq0).symm
      have q0 : Hc q = none := s3.free hq0
      obtain ⟨z1, z2⟩ := RowsN.snoc (G0 := Hc) (o := .lst (ks ++ [.ref q])) (L2.Paired.mapP hKs fun _ _ ⟨t, e, h1, h2⟩ => ⟨t, e, s4 _ _ h1, h2⟩) nD hq q0 nq
      refine ⟨ks, s4 _ _ hk, ?_, Same.updN (s3.trans s4) hD2, ks ++ [.ref q], upd_same, ?_, z2⟩
      · rw [Paired.length hKs, List.length_map]
        exact Nat.lt_of_le_of_lt (Nat.le_trans (List.length_take_le' _ _) (by omega : _ ≤ 6)) (by decide)
      · rw [take_more hg, List.map_append]
        exact z1
    · rintro H3 ⟨s3, ks, hk, hKs, _⟩
      rw [el, List.take_length] at hKs
      have p3 := s3 _ _ pC
      refine ⟨_, rfl, p, C, dx, _, rfl, p3, T.cl, T.nY, (by show 2 < 1000; decide), ?_⟩
      rw [pf_3]
      refine k _ lh D2 ks (fun b o ne e => by rw [upd_ne ne]; exact s3 _ _ (kHC _ _ ne e)) upd_same (fA _ hlh) ?_ (fC _ hD2) ?_ ?_
      · rw [upd_ne nlh]
        exact s3 _ _ lhC
      · rw [upd_ne (ne_of hk p3 (fun z => nomatch z))]
        exact hk
      · exact L2.Paired.mapP hKs fun _ _ ⟨t, e, h1, h2⟩ => ⟨t, e, by rw [upd_ne (ne_of h1 p3 (fun z => nomatch z))]; exact h1, fC _ h2⟩
end
end Toy
namespace Toy
end Toy
/-! ## super().m(..) of an instance: read in the body itself -/
namespace SupM
open PySem PySem.Spec PySem.W L2
open PyProof.Rows hiding wpAt wpAt_mono wpAt_bind
structure PEt (X : Cx) (body : List Stmt) (e : Expr) (t : TE) : Prop where
  run : ∀ (pins : List (Addr × Obj)) (s : Shared) (σ : L2.St) (H : Hp) (Q : VK), Inv X pins σ H s → t σ H Q → wpAt (model X.prog X.w) X.A (.func body X.env) (eval e X.env) (EP X pins σ Q) X.xe s
structure PSt (X : Cx) (body : List Stmt) (sts : List Stmt) (t : TS) : Prop where
  run : ∀ (pins : List (Addr × Obj)) (s : Shared) (σ : L2.St) (H : Hp) (D : Ends), Inv X pins σ H s → t D σ H → wpAt (model X.prog X.w) X.A (.func body X.env) (execs sts X.env) (SP X pins D) X.xe s
section
variable {X : Cx} {body rest sts : List Stmt} {e a b : Expr} {es : List Expr} {ta tb te : TE} {pos : Pos} {st : Stmt} {t u : TS}
theorem PEt.of (h : PE X e te) : PEt X body e te := ⟨fun pins s σ H Q I k => wpAt_of_wpAny (h.run pins s σ H Q I k)⟩
theorem PSt.of (h : PSs X sts t) : PSt X body sts t := ⟨fun pins s σ H D I k => wpAt_of_wpAny (h.run pins s σ H D I k)⟩
theorem pst_expr (h : PEt X body e te) (h2 : PSt X body rest u) (hs : swapsWith e none pos.line X.env = pure false := by rfl) : PSt X body (.Expr e pos :: rest) (tSeq (tDrop te) u) := by
  constructor
  intro pins s σ H D I k
  refine ks_wpAt_execs_cons (ks_wpAt_Expr_any (ks_wpAt_mono (h.run pins s σ H _ I k) (fun v s1 out => ?_) fun _ _ z => z) I.quiet hs)
  have ⟨x, H1, J, _, q⟩ := out
  exact h2.run pins s1 σ H1 D J q
end
/-! ### a call whose first argument is read so -/
section
variable {M : Model} {A : Around} {c : Code} {E : Value → Shared → Prop} {s : Shared} {K : Frag} {h₀ : Heap} {env : Env} {f : Value} {pos : Pos}
end
section
variable {X : Cx} {CX : CXT} {k : Nat} {f : Addr} {fd : FuncData} {ps : List Str} {sp : Sp} {x : Str} {q pos : Pos} {e : Expr} {es : List Expr} {te : TE} {ta : TA} {E : XK} {body : List Stmt}
end
end SupM
namespace SupM
open PySem PySem.Spec PySem.W L2
open PyProof.Rows hiding wpAt wpAt_mono wpAt_bind
/-- super().m(..): the def that stands behind, at the same instance -/
def tSup (C : Addr) (sp : Sp) (E : XK) (t : TA) : TE := fun σ H Q => ∃ a dx fs, σ[0]? = some (some (V.ref a)) ∧ H a = some (.ins C dx fs) ∧ t σ H fun vs H2 => sp (V.ref a :: vs) H2 Q E
/-- a class's def that says super(): what the written part has of it -/
structure DefS (P : Program) (K : Frag) (D : Addr) (name qual : Str) (st : Stmt) (f cda cc : Addr) (fd : FuncData) : Prop where
  ex : ∃ (oc ccl cl : Value) (od cdd cld an : Option Addr) (osl ccs csl : Array (Option Value)) (kV doc pm ct : Value) (vs0 : Array Value) (file : Str) (tf : Tok), fd = ksFn name qual (defArgs st) (defBody st) (defScope st) .none kV doc pm an (.ref cda) ct cc ∧ K.lookup f = some ⟨oc, od, .func fd, osl⟩ ∧
    codeIn K (.ref cda) qual = true ∧ K.lookup cda = some ⟨ccl, cdd, .fields vs0, ccs⟩ ∧ vs0[2]? = some (.str file tf) ∧ ((P.main.file : Str) == file) = true ∧ K.lookup cc = some ⟨cl, cld, .cell (some (.ref D)), csl⟩
  cls : (clsIn K D).isSome = true
/-- .. and of the module -/
structure SupB (P : Program) (K : Frag) (mg : Str → Option Value) : Prop where
  noS : mg "super" = none
  top : (P.main.scope.names.lookup ("super" : Str)).isSome = false
  st : nsIn K cStatics "thirdparty.any" = some none
/-- where super() leads from D, for an instance of C -/
structure Next (K : Frag) (C D : Addr) (m : Str) (f2 : Addr) : Prop where
  sub : mroIn K C (.ref D) = some true
  at_ : ks_superIn K C D m = some (some (.ref f2))
  ty : typeIn K (.ref f2) = some (.type "function")
  fn : fnIn K f2 = true
section
variable {X : Cx} {CX : CXT} {k : Nat} {body : List Stmt} {f cda cc D C f2 : Addr} {m name qual : Str} {fd : FuncData} {ar : Arg} {st : Stmt} {p0 p1 p2 pos : Pos} {e : Expr} {es : List Expr} {t : TA} {sp : Sp} {E : XK} {pl : Sem Bool}
theorem pet_super (d : DefS X.prog X.K D name qual st f cda cc fd) (b : SupB X.prog X.K X.mg) (n : Next X.K C D m f2) (F : FnR X.prog X.w X.K X.mg X.base CX k f2 sp) (hr : Room k X.A) (hx : Passes CX X E) (ha : PA X (e :: es) t)
    (hp : ((defArgs st).posonlyargs ++ (defArgs st).args).head? = some ar) (hcl : X.env.cells.lookup ("__class__" : Str) = some cc) (hfu : X.env.func = some f) (hco : X.env.code = .ref cda)
    (hks : X.env.kindOf "super" = some .globalImplicit) (hkc : X.env.kindOf "__class__" = some .free) (hN : X.N[0]? = some ar.arg) (hka : X.env.scope.names.lookup ar.arg = some .local)
    (hn : (m == ("__class__" : Str)) = false := by decide)
    (hst : starEach (e :: es) X.env = (false, eval e X.env) :: starEach es X.env := by rfl) (hpl : (backTo pos (starEach es X.env)).any (·.1) = false := by rfl)
    (hev : eval (.Call (.Attribute (.Call (.Name "super" p0) [] [] p1) m p2) (e :: es) [] pos) X.env = (do
      let ov ← attributeBase (.Call (.Name "super" p0) [] [] p1) m X.env (eval (.Call (.Name "super" p0) [] [] p1) X.env)
      standAt p2.atName
      let (f, first) ← holding [ov] (getMethod ov m pl)
      callWith pos f first (backTo pos (starEach (e :: es) X.env)) []) := by rfl) :
    PEt X body (.Call (.Attribute (.Call (.Name "super" p0) [] [] p1) m p2) (e :: es) [] pos) (tSup C sp E t) := by
  constructor
  intro pins s σ H Q I h
  obtain ⟨a, dx, fs, e0, ea, want⟩ := h
  obtain ⟨oc, ccl, cl, od, cdd, cld, an, osl, ccs, csl, kV, doc, pm, ct, vs0, file, tf, rfl, lk, _, hcode, hvs, hfile, hcell⟩ := d.ex
  obtain ⟨mm, hns, hl⟩ := I.loc
  obtain ⟨u, ru, lo⟩ := hl 0 ar.arg (.ref a) hN e0 (.inl hka)
  cases (show u = Value.ref a from ru)
  have hm0 : mm ar.arg = some (.ref a) := by
    rcases lo with ⟨_, q⟩ | ⟨q, _⟩
    · exact q
    · have q' : X.env.scope.names.lookup ar.arg = some .cell ∨ X.env.scope.names.lookup ar.arg = some .free := q
      rcases q' with q | q <;> (rw [hka] at q; cases q)
  obtain ⟨mA, O, _⟩ := ins_get I.hok ea
  obtain ⟨od', J, _⟩ := O.look
  have KI := I.kIn
  obtain ⟨oD, cdD, hD1, hD2⟩ : ∃ (oD : Obj) (cdD : ClassData), s.heap.get? D = some oD ∧ oD.data = .cls cdD := by
    have z := d.cls
    unfold clsIn at z
    split at z
    · rename_i o1 o2 cd o3 lkD
      exact ⟨_, cd, KI _ _ lkD, rfl⟩
    · cases z
  obtain ⟨mb, hb1, hb2⟩ := I.mod.blt
  refine ks_wpAt_MethodCall (pl := pl) ?_ hev
  refine ks_wpAt_super_base hks hkc hn hfu (KI _ _ lk) rfl hp hco (KI _ _ hcode) rfl hvs hfile b.top ?_
  refine ks_loadName_global I.ok.kind hks (Calls.loadGlobal_builtin (by rw [I.ok.glob]; exact I.mod.glob.keeps I.bk) b.noS (by rw [I.ok.blt]; exact hb1.keeps I.bk) ((hb2 "super" (by decide)).trans (by decide +kernel : bootBuiltins "super" = some (.type "super"))) ⟨rfl, ?_⟩)
  refine wpAny_loadName_free I.ok.kind hkc hcl ⟨_, KI _ _ hcell, rfl⟩ ?_
  refine wpAny_loadName_local I.ok.kind hka hns hm0 ?_
  refine ks_wpAny_isType_cls hD1 hD2 ⟨rfl, ?_⟩
  refine ks_wpAny_call_super hD1 hD2 J.at_ J.cls (fun c z => ?_) (looks_mroIn KI n.sub) (fun h2 e2 k2 => ?_)
  · have q := J.no
    unfold notCls at q
    rw [z] at q
    exact Bool.noConfusion q
  have I2 := I.kept (h' := h2) (t' := s.toks) k2
  have K2 := I2.kIn
  obtain ⟨mA2, O2, _⟩ := ins_get I2.hok ea
  obtain ⟨od2, J2, _⟩ := O2.look
  have al := n.at_
  unfold ks_superIn at al
  cases hC : clsIn X.K C with
  | none => rw [hC] at al; cases al
  | some cd =>
    rw [hC] at al
    obtain ⟨of, hof, hofc⟩ : ∃ of, h2.get? f2 = some of ∧ of.cls = .type "function" := by
      have ty : (X.K.lookup f2).map (·.cls) = some (.type "function") := n.ty
      cases z : X.K.lookup f2 with
      | none => rw [z] at ty; cases ty
      | some of => rw [z] at ty; exact ⟨of, K2 _ _ z, Option.some.inj ty⟩
    refine ks_wpAny_getMethod_super e2 (looks_opaque K2 b.st) (l₀ := cd.mro) (fun A Q E s k q => wpAny_bind ((looks_clsIn K2 hC) A _ E s k (wpAny_pure q))) rfl K2 al hof hofc (ks_ne K2 J2 hC) hn ?_
    have I3 := ClX.met_new (g := f2) (C := a) I2
    refine ClX.callwith_cm (C := a) I3 (ClX.base_none I2 (Nat.le_refl _)) n.fn (thn (ha.run pos _ _ σ H _ I3 want) fun us s3 out => ?_) hst hpl
    obtain ⟨vs, H2, I4, rv, q2⟩ := out
    exact ⟨⟨ClX.pin_at I4, I4.kIn⟩, ClX.run_cm F hr hx I4 rv q2⟩
end
section
variable {P : Program} {w : World} {K : Frag} {mg : Str → Option Value} {base : Heap} {CX : CXT} {k : Nat} {f cda cc D : Addr} {name qual : Str} {st : Stmt} {fd : FuncData} {ps N : List Str} {sp : Sp}
abbrev nfD (name qual : Str) (st : Stmt) (cc cda : Addr) : NdefX.NF := SupX.nfOf name qual (defArgs st) (defBody st) (defScope st) cc cda
/-- the rule of such a def -/
theorem fn_at (d : DefS P K D name qual st f cda cc fd) (S : NdefX.NScope N ps ["__class__"] (defScope st)) (len : ∀ vs H Q E, sp vs H Q E → vs.length = ps.length)
    (hbody : ∀ (A : Around) (outer : List Env) (s : Shared) (H : Hp) (vs : List V) (Q : VK) (E : XK), Room k (A.deeper (NdefX.envF (nfD name qual st cc cda) f s.heap.objs.size)) → sp vs H Q E →
      ∃ t, PSt (NdefX.ncx CX P w K mg base N (nfD name qual st cc cda) f A outer s H E) (defBody st) (defBody st) t ∧ t { nx := fun _ H' => Q .non H', rt := Q } (NdefX.startF N vs [none]) H) : FnOk P w K mg base CX (k + 1) f fd ps sp := by
  obtain ⟨oc, ccl, cl, od, cdd, cld, an, osl, ccs, csl, kV, doc, pm, ct, vs0, file, tf, rfl, lk, hcd, hcode, hvs, hfile, hcell⟩ := d.ex
  constructor
  · exact len
  intro A outer s H args us vs Q E hr e0 hb r hsp
  have hl := len _ _ _ _ hsp
  have up : ∀ b o, base.get? b = some o → s.heap.get? b = some o := fun b o e => (e0.bs b o e).1
  have KX := e0.mod.kin.keeps up
  obtain ⟨t, hPS, ht⟩ := hbody A outer s H vs Q E (hr.deeper _) hsp
  refine ks_codeAny_call_defAt (fd := ksFn name qual (defArgs st) (defBody st) (defScope st) .none kV doc pm an (.ref cda) ct cc) (binds := ps.zip us) hr.depth (KX _ _ lk) rfl (e0.mod.nolimit.keeps up) (codeRec_of KX hcd) rfl hb (fun y hy => S.nocell y hy) (fun y hy => S.par y.1 (List.of_mem_zip hy).1) (fun h₁ hns kp => ?_) S.co S.gen S.kind
  have hcl : ([("__class__", cc)] : List (Str × Addr)).lookup ("__class__" : Str) = some cc := by simp [List.lookup]
  have only : ∀ y c, ([("__class__", cc)] : List (Str × Addr)).lookup y = some c → y = "__class__" ∧ c = cc := fun y c e => by
    by_cases hy : y = "__class__"
    · subst hy
      rw [hcl] at e
      exact ⟨rfl, (Option.some.inj e).symm⟩
    · have q : (y == ("__class__" : Str)) = false := by simpa using hy
      simp [List.lookup, q] at e
  have CA : NdefX.CellsAt [("__class__", cc)] ["__class__"] [none] s.heap H := by
    refine ⟨rfl, fun y c e => ?_, fun x y c e1 e2 => by rw [(only x c e1).1, (only y c e2).1], fun i y e => ?_⟩
    · obtain ⟨_, rfl⟩ := only y c e
      exact ⟨(e0.bs _ _ (e0.mod.kin _ _ hcell)).2, _, _, KX _ _ hcell, rfl⟩
    · match i, e with
      | 0, e =>
        cases e
        exact ⟨cc, hcl, fun v z => by cases z⟩
      | _ + 1, e => cases e
  have I := NdefX.inv_startN (CX := CX) (F := nfD name qual st cc cda) (f := f) (E := E) (tk := s.toks + (ps.zip us).length) S hr.hd e0 hl r CA hns kp
  exact ks_wpAt_mono (hPS.run [] _ _ H _ I ht) (fun fl s' out => SupX.ce_of (X := NdefX.ncx CX P w K mg base N (nfD name qual st cc cda) f A outer s H E) rfl out) fun _ _ z => z
end
end SupM
namespace Toy
open PySem PySem.Spec PyProof.Rows L2
abbrev sKnower : Stmt := top 34
abbrev sKInit : Stmt := inClass sKnower 0
theorem isWn {n : Nat} {x : Nat} : isW n (x : Int) = decide (x < n) := by
  unfold isW
  rw [decide_eq_true (by omega : (0 : Int) ≤ (x : Int)), Bool.true_and]
  by_cases h : x < n
  · rw [decide_eq_true h, decide_eq_true (by omega)]
  · rw [decide_eq_false h, decide_eq_false (by omega)]
theorem isW_at {n : Nat} {y : Int} (h : isW n y = true) : ∃ j : Nat, y = (j : Int) ∧ j < n := by
  unfold isW at h
  rw [Bool.and_eq_true, decide_eq_true_iff, decide_eq_true_iff] at h
  exact ⟨y.toNat, by omega, by omega⟩
/-! ### what each kind says -/
def pT (ws : List Int) (L : List (List Int)) : List (List Int) := ws.map fun y => row L y.toNat
theorem pT_len {ws : List Int} {L : List (List Int)} : (pT ws L).length = ws.length := List.length_map ..
theorem pT_at {ws : List Int} {L : List (List Int)} {i : Nat} {y : Int} (h : ws[i]? = some y) : (pT ws L)[i]? = some (row L y.toNat) := by
  unfold pT
  rw [List.getElem?_map, h]
  rfl
/-- the attribute more of those who know -/
def kx (lq : Addr) : List (Str × V) := [("_known", V.ref lq)]
section
variable {P : Program} {w : World} {K : PySem.W.Frag} {mg : Str → Option Value} {base : Heap}
end
end Toy
namespace Toy
open PySem PySem.Spec PyProof.Rows L2
theorem sk_ : ¬ (("size" : Str) = "_known") := by decide +kernel
theorem hk_ : ¬ (("_hears" : Str) = "_known") := by decide +kernel
theorem yk_ : ¬ (("_says" : Str) = "_known") := by decide +kernel
theorem pf_4 (n : Nat) (lh lk lq : Addr) : putF "_known" (.ref lq) (pf n lh lk) = pf n lh lk ++ kx lq := by
  show (if ("size" : Str) = "_known" then _ else (("size" : Str), V.int n) :: (if ("_hears" : Str) = "_known" then _ else (("_hears" : Str), V.ref lh) :: (if ("_says" : Str) = "_known" then _ else (("_says" : Str), V.ref lk) :: putF "_known" (V.ref lq) []))) = _
  rw [if_neg sk_, if_neg hk_, if_neg yk_]
  rfl
theorem look_cls (cc : Addr) : ([("__class__", cc)] : List (Str × Addr)).lookup ("__class__" : Str) = some cc := by simp [List.lookup]
def spKInit (K : PySem.W.Frag) (C : Addr) : Sp := fun vs H Q _ => ∃ (p dx l1 l2 l3 : Addr) (hs : List Int) (ls : List V) (G : List (List Int)) (kn : List Int), vs = [.ref p, .ref l1, .ref l2, .ref l3] ∧ H p = some (.ins C dx []) ∧ H dx = some (.own p) ∧ H l1 = some (.lst (vI hs)) ∧ H l2 = some (.lst ls) ∧ RowsL H ls G ∧
  1 ≤ hs.length ∧ hs.length ≤ 6 ∧ G.length = hs.length ∧ hs.all (isW hs.length) = true ∧ (∀ g ∈ G, 1 ≤ g.length ∧ g.length < sizeLine ∧ g.all (isW hs.length) = true) ∧ H l3 = some (.lst (vI kn)) ∧ kn.all (isW hs.length) = true ∧ kn.length < sizeLine ∧
  ∀ H' lh lk ks lq, (∀ b o, b ≠ p → H b = some o → H' b = some o) → H' p = some (.ins C dx (pf hs.length lh lk ++ kx lq)) → H lh = none → H' lh = some (.lst (vI hs)) → H lk = none → H' lk = some (.lst ks) → RowsN H H' ks (G.map fun g => asc g hs.length) → H lq = none → H' lq = some (.lst (vI (asc kn hs.length))) → Q .non H'
section
variable {P : Program} {w : World} {K : PySem.W.Frag} {mg : Str → Option Value} {base : Heap}
theorem scKInit : NdefX.NScope ["self", "hears", "says", "knows", "__class__"] ["self", "hears", "says", "knows"] ["__class__"] (defScope sKInit) := NdefX.nscope_by (by decide +kernel)
theorem supI : (defScope sKInit).names.lookup ("super" : Str) = some .globalImplicit := by decide +kernel
/-- Knower.__init__ -/
theorem ok_kInit {f f2 cda cc C D Ct : Addr} {fd : FuncData} (d : SupM.DefS P K D "__init__" "Knower.__init__" sKInit f cda cc fd) (b : SupM.SupB P K mg) (nx : SupM.Next K C D "__init__" f2) (FN : FnR P w K mg base CX0 3 f2 (spPInit K C))
    (S : Gs K mg Ct) (T : PT K mg C) (nK : NoAttr K C "_known") : FnOk P w K mg base CX0 4 f fd ["self", "hears", "says", "knows"] (spKInit K C) := by
  obtain ⟨fW, fdW, FW, mW, bW⟩ := S.isW_
  obtain ⟨fA, fdA, FA, mA, bA⟩ := S.allW
  obtain ⟨fS, fdS, FS, mS, bS⟩ := S.asc
  refine SupM.fn_at d scKInit (fun vs H Q E h => ?_) (fun A outer s H vs Q E hr h => ?_)
  · obtain ⟨p, dx, l1, l2, l3, hs, ls, G, kn, rfl, _⟩ := h
    rfl
  · obtain ⟨p, dx, l1, l2, l3, hs, ls, G, kn, rfl, hp, hdx, hl1, hl2, hR, n1, n6, eG, hall, gG, hl3, kall, kl, k⟩ := h
    have hr1 : Room 1 _ := hr.mono (by decide)
    have hr2 : Room 2 _ := hr.mono (by decide)
    refine ⟨_, SupM.pst_expr (SupM.pet_super d b nx FN hr pass0 (pa_cons (pv 1) (pa_cons (pv 2) pa_nil)) rfl (look_cls cc) rfl rfl supI (scKInit.frk _ (by simp)) rfl (scKInit.par _ (by simp)))
      (SupM.PSt.of (pss_cons (ps_if (pt_not (pt_val (pe_call (ok_allWords FA S.B FW mW bW) hr2 rfl mA FA.kp bA .nil pass0 (pa_cons (pv 3) (pa_cons (pe_fld (pv 0) rfl) pa_nil))))) (pss_one ps_never) pss_nil)
        (pss_one (ps_fld (pv 0) (pe_call (ok_asc FS S.B) hr1 rfl mS FS.kp bS .nil pass0 (pa_cons (pv 3) (pa_cons (pe_fld (pv 0) rfl) pa_nil))) rfl)))), ?_⟩
    refine ⟨p, dx, _, rfl, hp, _, rfl, _, rfl, p, dx, l1, l2, hs, ls, G, rfl, hp, hdx, hl1, hl2, hR, n1, n6, eG, hall, gG, fun H1 lh lk ks k1 hp1 lh0 hlh lk0 hlk hKK => ?_⟩
    have n3 : l3 ≠ p := ne_of hl3 hp (fun z => nomatch z)
    refine ⟨_, rfl, _, rfl, p, C, dx, _, _, rfl, hp1, T.cl, T.nS, pf_size _ _ _, l3, kn, hs.length, rfl, SqL.of (k1 _ _ n3 hl3), kl, fun H2 s2 => ⟨_, rfl, ?_⟩⟩
    rw [kall]
    refine iteF ?_
    have hl32 := s2 _ _ (k1 _ _ n3 hl3)
    refine ⟨_, rfl, _, rfl, p, C, dx, _, _, rfl, s2 _ _ hp1, T.cl, T.nS, pf_size _ _ _, l3, kn, hs.length, rfl, .inl (SqL.of hl32), n6, fun H3 lq s3 lq0 hlq => ?_⟩
    have p3 := s3 _ _ (s2 _ _ hp1)
    have s13 := s2.trans s3
    refine ⟨_, rfl, p, C, dx, _, rfl, p3, T.cl, nK, (by show 3 < 1000; decide), ?_⟩
    rw [pf_4]
    have np : ∀ {z : Addr} {o : HO}, H3 z = some o → o ≠ .ins C dx (pf hs.length lh lk) → z ≠ p := fun {z o} e n => ne_of e p3 n
    have fH : ∀ {z : Addr}, H2 z = none → H z = none := fun {z} e => by
      cases q : H z with
      | none => rfl
      | some o =>
        by_cases ne : z = p
        · subst ne
          rw [s2 _ _ hp1] at e
          cases e
        · rw [s2 _ _ (k1 z o ne q)] at e
          cases e
    refine k _ lh lk ks lq (fun z o ne e => by rw [upd_ne ne]; exact s13 _ _ (k1 z o ne e)) upd_same lh0 ?_ lk0 ?_ ?_ (fH lq0) ?_
    · rw [upd_ne (np (s13 _ _ hlh) (fun z => nomatch z))]
      exact s13 _ _ hlh
    · rw [upd_ne (np (s13 _ _ hlk) (fun z => nomatch z))]
      exact s13 _ _ hlk
    · exact L2.Paired.mapP hKK fun _ _ ⟨t, e, q1, q2⟩ => ⟨t, e, by rw [upd_ne (np (s13 _ _ q1) (fun z => nomatch z))]; exact s13 _ _ q1, q2⟩
    · rw [upd_ne (np hlq (fun z => nomatch z))]
      exact hlq
end
end Toy
namespace Toy
open PySem PySem.Spec PyProof.Rows L2
/-! ### people refused -/
def hOk (hs : List Int) : Bool := (decide (1 ≤ (hs.length : Int)) && decide ((hs.length : Int) ≤ 6)) && hs.all (isW hs.length)
def gOk (n : Nat) (g : List Int) : Bool := decide (1 ≤ (g.length : Int)) && g.all (isW n)
def sOk (n : Nat) (G : List (List Int)) : Bool := decide (G.length = n) && G.all (gOk n)
/-- out of a making: all but the new person is as it was -/
def BoomP (c p : Addr) (part : Str) (H : Hp) (E : XK) : Prop := ∀ H' d, (∀ b o, b ≠ p → H b = some o → H' b = some o) → H d = none → H' d = some (.xd [("part", .str part)]) → E (.ref c) (some d) H'
structure Desc (H : Hp) (l1 l2 : Addr) (hs : List Int) (ls : List V) (G : List (List Int)) : Prop where
  h1 : H l1 = some (.lst (vI hs))
  h2 : H l2 = some (.lst ls)
  r : RowsL H ls G
  b1 : hs.length ≤ 100
  b2 : G.length ≤ 100
  b3 : ∀ g ∈ G, g.length ≤ 100
theorem Desc.same {H H' : Hp} {l1 l2 : Addr} {hs : List Int} {ls : List V} {G : List (List Int)} (s : Same H H') (d : Desc H l1 l2 hs ls G) : Desc H' l1 l2 hs ls G := ⟨s _ _ d.h1, s _ _ d.h2, RowsL.same s d.r, d.b1, d.b2, d.b3⟩
def spPInitBad (C c : Addr) : Sp := fun vs H _ E => ∃ (p dx l1 l2 : Addr) (hs : List Int) (ls : List V) (G : List (List Int)), vs = [.ref p, .ref l1, .ref l2] ∧ H p = some (.ins C dx []) ∧ H dx = some (.own p) ∧ Desc H l1 l2 hs ls G ∧
  ((hOk hs = false ∧ BoomP c p "hears" H E) ∨ (hOk hs = true ∧ sOk hs.length G = false ∧ BoomP c p "says" H E))
def spPInitX (K : PySem.W.Frag) (C c : Addr) : Sp := fun vs H Q E => spPInit K C vs H Q E ∨ spPInitBad C c vs H Q E
def spKInitBad (C c : Addr) : Sp := fun vs H _ E => ∃ (p dx l1 l2 l3 : Addr) (hs : List Int) (ls : List V) (G : List (List Int)) (kn : List Int), vs = [.ref p, .ref l1, .ref l2, .ref l3] ∧ H p = some (.ins C dx []) ∧ H dx = some (.own p) ∧ Desc H l1 l2 hs ls G ∧ H l3 = some (.lst (vI kn)) ∧ kn.length ≤ 101 ∧
  ((hOk hs = false ∧ BoomP c p "hears" H E) ∨ (hOk hs = true ∧ sOk hs.length G = false ∧ BoomP c p "says" H E) ∨ (hOk hs = true ∧ sOk hs.length G = true ∧ kn.all (isW hs.length) = false ∧ BoomP c p "knows" H E))
def spKInitX (K : PySem.W.Frag) (C c : Addr) : Sp := fun vs H Q E => spKInit K C vs H Q E ∨ spKInitBad C c vs H Q E
theorem hOk_1 {hs : List Int} (h : hOk hs = true) : 1 ≤ hs.length ∧ hs.length ≤ 6 ∧ hs.all (isW hs.length) = true := by
  unfold hOk at h
  rw [Bool.and_eq_true, Bool.and_eq_true, decide_eq_true_iff, decide_eq_true_iff] at h
  exact ⟨by omega, by omega, h.2⟩
theorem sOk_1 {n : Nat} {G : List (List Int)} (h : sOk n G = true) : G.length = n ∧ ∀ g ∈ G, 1 ≤ g.length ∧ g.all (isW n) = true := by
  unfold sOk at h
  rw [Bool.and_eq_true, decide_eq_true_iff, List.all_eq_true] at h
  refine ⟨h.1, fun g hg => ?_⟩
  have := h.2 g hg
  unfold gOk at this
  rw [Bool.and_eq_true, decide_eq_true_iff] at this
  exact ⟨by omega, this.2⟩
theorem lt101 {n : Nat} (h : n ≤ 101) : n < sizeLine := Nat.lt_of_le_of_lt h (by decide)
theorem lt100 {n : Nat} (h : n ≤ 100) : n < sizeLine := Nat.lt_of_le_of_lt h (by decide)
section
variable {P : Program} {w : World} {K : PySem.W.Frag} {mg : Str → Option Value} {base : Heap}
theorem boomOf {c p : Addr} {part : Str} {H H1 : Hp} {E : XK} (b : BoomP c p part H E) (s : Same H H1) (d : Addr) (hd : H1 d = none) : E (.ref c) (some d) (upd H1 d (.xd [("part", .str part)])) :=
  b _ d (fun q o _ e => (s.trans (Same.new hd)) _ _ e) (s.free hd) upd_same
theorem ok_pInitX {f C Ct c : Addr} {fd : FuncData} (F : Fun K "__init__" "Person.__init__" sPInit f fd) (S : Gs K mg Ct) (T : PT K mg C) (R : Er P K mg "BadPerson" ["part"] c) : FnOk P w K mg base (L2N.CX P w) 4 f fd ["self", "hears", "says"] (spPInitX K C c) := by
  refine ((ok_pInit F S T).free.mono (by decide)).or ?_
  obtain ⟨fW, fdW, FW, mW, bW⟩ := S.isW_
  obtain ⟨fA, fdA, FA, mA, bA⟩ := S.allW
  obtain ⟨fI, fdI, FI, mI, bI⟩ := S.isS
  refine F.okN scPInit (fun vs H Q E h => ?_) (fun cdv A outer s H vs Q E hr h => ?_)
  · obtain ⟨p, dx, l1, l2, hs, ls, G, rfl, _⟩ := h
    rfl
  · obtain ⟨p, dx, l1, l2, hs, ls, G, rfl, hp, hdx, ⟨hl1, hl2, hR, b1, b2, b3⟩, why⟩ := h
    have hr1 : Room 1 _ := hr.mono (by decide)
    have hr2 : Room 2 _ := hr.mono (by decide)
    refine ⟨_, pss_cons (ps_set (i := 3) scPInit.nd rfl (Or.inr rfl) (pe_callB call_len_seq (by rfl) S.B.len PySem.boot_len (pa_cons (pv 1) pa_nil)))
      (pss_cons (ps_if (PW.pt (pw_or (pt_not (pt_val (pe_call (ok_isSize FI S.T) hr1 rfl mI FI.kp bI .nil pass0 (pa_cons (pv 3) pa_nil)))) (pw_or1 (pt_not (pt_val (pe_call (ok_allWords FA S.B FW mW bW) hr2 rfl mA FA.kp bA .nil pass0 (pa_cons (pv 1) (pa_cons (pv 3) pa_nil)))))))) (pss_one (ps_raiseEr rfl R hr2 (L2N.takes_of rfl rfl rfl rfl) (pa_cons pe_str pa_nil))) pss_nil)
      (pss_cons (ps_if (PW.pt (pw_or (pt_cmpR op_ne (pe_callB call_len_seq (by rfl) S.B.len PySem.boot_len (pa_cons (pv 2) pa_nil)) (pv 3) (nomark _)) (pw_or1 (pt_not (pt_val (pe_callB (cr_all rfl) (by rfl) S.B.all (by decide +kernel) (pa_cons
          (pe_lc (own := [("words", 4)]) (g := gName 4) (tt := tYes) rfl scPInit.nd (pi_list (pv 2)) (blkOk_by (own := [("words", 4)]) (N := NPi) (sc := defScope sPInit) (by decide +kernel))
            (fun _ _ _ _ _ => pg_name (i := 4) scPInit.nd rfl (Or.inl rfl)) (fun _ _ _ _ _ => pts_nil)
            (fun _ _ _ _ _ => pe_and (pe_cmpR op_ge (pe_callB (show CallR _ _ (rLen K) from call_len_seq) (by rfl) S.B.len PySem.boot_len (pa_cons (pv 4) pa_nil)) pe_int (nomark _)) (pe_one (pe_call (ok_allWords FA S.B FW mW bW) hr2 rfl mA FA.kp bA .nil pass0 (pa_cons (pv 4) (pa_cons (pv 3) pa_nil)))))) pa_nil))))))) (pss_one (ps_raiseEr rfl R hr2 (L2N.takes_of rfl rfl rfl rfl) (pa_cons pe_str pa_nil))) pss_nil)
      pss_never)), ?_⟩
    have el : ls.length = G.length := Paired.length hR
    have hl : (vI hs).length = hs.length := vI_len hs
    refine ⟨_, rfl, l1, _, rfl, .inl (SqL.of hl1), ?_⟩
    rw [hl]
    refine ⟨_, rfl, (hs.length : Int), rfl, _, rfl, ?_⟩
    have prs : ∀ (z : Str), z.length ≤ 1921 → ∀ v ∈ [V.str z], Pr v := fun z hz v hv => by
      cases List.mem_singleton.mp hv
      exact .inr ⟨_, rfl, hz⟩
    rcases why with ⟨bad, boom⟩ | ⟨good, bad, boom⟩
    · unfold hOk at bad
      cases c1 : (decide (1 ≤ (hs.length : Int)) && decide ((hs.length : Int) ≤ 6)) with
      | false => exact iteT (iteT ⟨rfl, prs _ (by decide), fun d hd => boomOf boom (Same.refl H) d hd⟩)
      | true =>
        rw [c1, Bool.true_and] at bad
        refine iteF ⟨_, rfl, _, rfl, l1, hs, hs.length, rfl, SqL.of hl1, lt100 b1, fun H1 s1 => ⟨_, rfl, ?_⟩⟩
        rw [bad]
        exact iteT ⟨rfl, prs _ (by decide), fun d hd => boomOf boom s1 d hd⟩
    · obtain ⟨n1, n6, hall⟩ := hOk_1 good
      rw [decide_eq_true (by omega : (1 : Int) ≤ hs.length), decide_eq_true (by omega : (hs.length : Int) ≤ 6)]
      refine iteF ⟨_, rfl, _, rfl, l1, hs, hs.length, rfl, SqL.of hl1, lt100 b1, fun H1 s1 => ⟨_, rfl, ?_⟩⟩
      rw [hall]
      refine iteF ?_
      refine ⟨_, rfl, l2, ls, rfl, .inl (SqL.of (s1 _ _ hl2)), _, rfl, rfl, _, rfl, ?_⟩
      unfold sOk at bad
      by_cases eG : G.length = hs.length
      · rw [decide_eq_true eG, Bool.true_and] at bad
        refine iteNS (by rw [el, eG]) ?_
        refine ⟨_, rfl, l2, rfl, ⟨_, SqL.of (s1 _ _ hl2)⟩, fun D hD => ?_⟩
        refine lc_list (K := K) (a := l2) (xs := ls) (fun i H' => Same H1 H' ∧ H' D = some (.lst (((G.take i).map (gOk hs.length)).map V.bl))) ⟨Same.new hD, upd_same⟩ (fun i H' _ ⟨s, _⟩ => SqL.of ((s1.trans s) _ _ hl2)) ?_ ?_
        · rintro i y H2 hi ⟨s2, hd⟩
          obtain ⟨g, hg, t, rfl, ht⟩ := L2.Paired.at (RowsL.same (s1.trans s2) hR) hi
          have il : i < G.length := (List.getElem?_eq_some_iff.mp hg).1
          have step : ∀ {H3 : Hp}, Same H2 H3 → ∃ acc, H3 D = some (.lst acc) ∧ acc.length < sizeLine ∧ (Same H1 (upd H3 D (.lst (acc ++ [V.bl (gOk hs.length g)]))) ∧ upd H3 D (.lst (acc ++ [V.bl (gOk hs.length g)])) D = some (.lst (((G.take (i + 1)).map (gOk hs.length)).map V.bl))) := fun {H3} s3 => by
            refine ⟨_, s3 _ _ hd, ?_, Same.updN (s2.trans s3) hD, ?_⟩
            · rw [List.length_map, List.length_map]
              exact Nat.lt_of_le_of_lt (Nat.le_trans (List.length_take_le _ _) (by omega : i ≤ 100)) (by decide)
            · rw [upd_same, take_more hg, List.map_append, List.map_append]
              rfl
          refine ⟨rfl, yesT (iteT ?_)⟩
          refine ⟨_, rfl, t, _, rfl, .inl (SqL.of ht), _, _, rfl, rfl, _, rfl, ?_⟩
          rw [vI_len]
          unfold gOk at step
          cases c2 : decide ((1 : Int) ≤ (g.length : Int)) with
          | false =>
            rw [c2, Bool.false_and] at step
            exact iteF (step (Same.refl H2))
          | true =>
            rw [c2, Bool.true_and] at step
            refine iteT ⟨_, rfl, _, rfl, t, g, hs.length, rfl, SqL.of ht, lt100 (b3 g (List.mem_of_getElem? hg)), fun H3 s3 => ?_⟩
            exact step s3
        rintro H2 ⟨s2, hd⟩
        rw [el, List.take_length] at hd
        refine ⟨D, G.map (gOk hs.length), rfl, SqL.of hd, ?_⟩
        refine ⟨_, rfl, ?_⟩
        rw [show (G.map (gOk hs.length)).all id = false by rw [List.all_map]; exact bad]
        exact iteT ⟨rfl, prs _ (by decide), fun d hd => boomOf boom (s1.trans s2) d hd⟩
      · have e : decide (V.int (ls.length : Int) = V.int (hs.length : Int)) = false := decide_eq_false fun z => eG (by have := V.int.inj z; omega)
        rw [e]
        exact iteT (iteT ⟨rfl, prs _ (by decide), fun d hd => boomOf boom s1 d hd⟩)
end
end Toy
namespace Toy
open PySem PySem.Spec PyProof.Rows L2
/-! ### what the top has written of the errors, in short -/
section
variable {K : PySem.W.Frag} {C D : Addr} {b : Bool}
theorem kit_of (self : PySem.W.subIn K (.ref D) (.ref D) = some true) (h1 : PySem.W.isClsIn K C = true) (h2 : PySem.W.typeIn K (.ref C) = some (.type "type")) (h3 : PySem.W.subIn K (.ref D) (.ref C) = some b) : PySem.W.kitOne K (.ref D) (.ref C) = some b := by
  unfold PySem.W.kitOne
  by_cases e : D = C
  · subst e
    rw [self] at h3
    rw [if_pos (by simp), h3]
  · rw [if_neg (by simpa using e)]
    have z : ((PySem.W.clsIn K C).isSome && PySem.W.typeIn K (.ref C) == some (.type "type")) = true := by
      rw [h2]
      have h1' : (PySem.W.clsIn K C).isSome = true := h1
      rw [h1'] <;> rfl
    show (if ((PySem.W.clsIn K C).isSome && PySem.W.typeIn K (.ref C) == some (.type "type")) = true then PySem.W.subIn K (.ref D) (.ref C) else none) = some b
    rw [if_pos z]
    exact h3
theorem kitV_ty (h : PySem.W.subIn K (.ref D) (.type "ValueError") = some true) : PySem.W.kitOne K (.ref D) (.type "ValueError") = some true := by
  unfold PySem.W.kitOne
  rw [if_neg (by simp)]
  show (if PySem.W.kitMeta "ValueError" = true then PySem.W.subIn K (.ref D) (.type "ValueError") else none) = some true
  rw [if_pos (by decide +kernel)]
  exact h
theorem oex_mk {nm q : Str} {N : Addr} {bs bm : List Value} {sn : List Str} {sub : List Value} {ab : Bool} {col : Option Bool} {dd : Option Addr} {k0 k1 k2 k3 k5 : Option Value} (l : K.lookup C = some (excClassObj nm q C N bs bm true sn sub ab col dd k0 k1 k2 k3 k5 "ValueError.__new__")) (r : PySem.HandSPX.refsVE bm = true)
    (sa : PySem.W.findIn K (.ref C) "__setattr__" = some (some (.builtin "object.__setattr__"))) (ex : PySem.W.subIn K (.ref C) (.type "BaseException") = some true) (ty : PySem.W.typeIn K (.ref C) = some (.type "type")) (kC : PySem.W.keepIn K (.ref C) = true) : OexC K C :=
  ⟨⟨nm, q, N, bs, bm, sn, sub, ab, col, dd, k0, k1, k2, k3, k5, l, r⟩, sa, ex, ty, kC⟩
end
section
variable {P : Program} {K : PySem.W.Frag} {mg : Str → Option Value} {C f cda cc : Addr} {qual : Str} {st : Stmt} {oc ccl cl kV doc pm ct : Value} {od cdd cld an : Option Addr} {osl ccs csl : Array (Option Value)} {vs0 : Array Value} {file : Str} {tf : Tok}
theorem ert_mk (T : OexC K C) (self : PySem.W.mroIn K C (.ref C) = some true) (noS : mg "super" = none) (top : (P.main.scope.names.lookup ("super" : Str)).isSome = false) (sta : PySem.W.nsIn K cStatics "thirdparty.any" = some none)
    (al : PySem.W.ks_superIn K C C "__init__" = some (some (.builtin "ValueError.__init__"))) (vE : PySem.W.subIn K (.ref C) (.type "ValueError") = some true)
    (lk : K.lookup f = some ⟨oc, od, .func (PySem.W.ksFn "__init__" qual (defArgs st) (defBody st) (defScope st) .none kV doc pm an (.ref cda) ct cc), osl⟩) (cd : PySem.W.codeIn K (.ref cda) qual = true) (lc : K.lookup cda = some ⟨ccl, cdd, .fields vs0, ccs⟩)
    (hv : vs0[2]? = some (.str file tf)) (hf : ((P.main.file : Str) == file) = true) (cell : K.lookup cc = some ⟨cl, cld, .cell (some (.ref C)), csl⟩) (iC : PySem.W.findIn K (.ref C) "__init__" = some (some (.ref f))) (tI : PySem.W.typeIn K (.ref f) = some (.type "function")) :
    ErT P K mg C qual st f (PySem.W.ksFn "__init__" qual (defArgs st) (defBody st) (defScope st) .none kV doc pm an (.ref cda) ct cc) :=
  ⟨⟨T, self, noS, top, sta, al, vE⟩, ⟨oc, ccl, cl, od, cdd, cld, an, osl, ccs, csl, cda, cc, kV, doc, pm, ct, vs0, file, tf, rfl, lk, cd, lc, hv, hf, cell⟩, iC, tI⟩
end
end Toy
namespace Toy
open PySem PySem.Spec PyProof.Rows L2
abbrev sPErr : Stmt := top 45
/-- what is wrong with a description, asked by the class of this number -/
def verd (i : Nat) (hs : List Int) (G : List (List Int)) (kn : List Int) : Option Str :=
  if hOk hs = false then some "hears" else if sOk hs.length G = false then some "says" else if 2 ≤ i ∧ kn.all (isW hs.length) = false then some "knows" else none
def told : Option Str → List V
  | none => []
  | some z => [.str z, .bl true]
def spPErr : Sp := fun vs H Q _ => ∃ (i : Nat) (l1 l2 l3 : Addr) (hs : List Int) (ls : List V) (G : List (List Int)) (kn : List Int), vs = [.int i, .ref l1, .ref l2, .ref l3] ∧ i < 4 ∧ Desc H l1 l2 hs ls G ∧ H l3 = some (.lst (vI kn)) ∧ kn.length ≤ 101 ∧ NewL H Q (told (verd i hs G kn))
theorem made {C x dx : Addr} {H : Hp} (hx : H x = none) (hdx : H dx = none) (ndx : dx ≠ x) : Same H (upd (upd H dx (.own x)) x (.ins C dx [])) ∧ upd (upd H dx (.own x)) x (.ins C dx []) dx = some (.own x) :=
  ⟨Same.upd (Same.new hdx) (by rw [upd_ne ndx.symm]; exact hx), by rw [upd_ne ndx]; exact upd_same⟩
theorem kept {C x dx : Addr} {H H' : Hp} (hx : H x = none) (hdx : H dx = none) (ndx : dx ≠ x) (k : ∀ b o, b ≠ x → upd (upd H dx (.own x)) x (.ins C dx []) b = some o → H' b = some o) : Same H H' :=
  fun q o e => k q o (ne_of_none e hx) ((made (C := C) hx hdx ndx).1 _ _ e)
theorem boom_made {C c x dx : Addr} {z : Str} {H : Hp} {E : XK} (hx : H x = none) (hdx : H dx = none) (ndx : dx ≠ x) (hE : ∀ H2 d, Same H H2 → H d = none → H2 d = some (.xd [("part", .str z)]) → E (.ref c) (some d) H2) : BoomP c x z (upd (upd H dx (.own x)) x (.ins C dx [])) E :=
  fun H2 d k d0 hd => hE H2 d (kept hx hdx ndx k) ((made (C := C) hx hdx ndx).1.free d0) hd
section
variable {P : Program} {w : World} {K : PySem.W.Frag} {mg : Str → Option Value} {base : Heap}
theorem ok_kInitX {f f2 cda cc C D Ct c : Addr} {fd : FuncData} (d : SupM.DefS P K D "__init__" "Knower.__init__" sKInit f cda cc fd) (b : SupM.SupB P K mg) (nx : SupM.Next K C D "__init__" f2) (FN : FnR P w K mg base CX0 3 f2 (spPInit K C)) (FX : FnR P w K mg base (L2N.CX P w) 4 f2 (spPInitX K C c))
    (S : Gs K mg Ct) (T : PT K mg C) (nK : NoAttr K C "_known") (R : Er P K mg "BadPerson" ["part"] c) : FnOk P w K mg base (L2N.CX P w) 5 f fd ["self", "hears", "says", "knows"] (spKInitX K C c) := by
  refine ((ok_kInit d b nx FN S T nK).free.mono (by decide)).or ?_
  obtain ⟨fW, fdW, FW, mW, bW⟩ := S.isW_
  obtain ⟨fA, fdA, FA, mA, bA⟩ := S.allW
  refine SupM.fn_at d scKInit (fun vs H Q E h => ?_) (fun A outer s H vs Q E hr h => ?_)
  · obtain ⟨p, dx, l1, l2, l3, hs, ls, G, kn, rfl, _⟩ := h
    rfl
  · obtain ⟨p, dx, l1, l2, l3, hs, ls, G, kn, rfl, hp, hdx, D0, hl3, kl, why⟩ := h
    have hr2 : Room 2 _ := hr.mono (by decide)
    refine ⟨_, SupM.pst_expr (SupM.pet_super d b nx FX hr (passUp (L2N.takes_of rfl rfl rfl rfl)) (pa_cons (pv 1) (pa_cons (pv 2) pa_nil)) rfl (look_cls cc) rfl rfl supI (scKInit.frk _ (by simp)) rfl (scKInit.par _ (by simp)))
      (SupM.PSt.of (pss_cons (ps_if (pt_not (pt_val (pe_call (ok_allWords FA S.B FW mW bW) hr2 rfl mA FA.kp bA .nil pass0 (pa_cons (pv 3) (pa_cons (pe_fld (pv 0) rfl) pa_nil))))) (pss_one (ps_raiseEr rfl R hr2 (L2N.takes_of rfl rfl rfl rfl) (pa_cons pe_str pa_nil))) pss_nil)
        pss_never)), ?_⟩
    refine ⟨p, dx, _, rfl, hp, _, rfl, _, rfl, ?_⟩
    rcases why with w1 | w2 | ⟨ho, so, bad, boom⟩
    · exact .inr ⟨p, dx, l1, l2, hs, ls, G, rfl, hp, hdx, D0, .inl w1⟩
    · exact .inr ⟨p, dx, l1, l2, hs, ls, G, rfl, hp, hdx, D0, .inr w2⟩
    · obtain ⟨n1, n6, hall⟩ := hOk_1 ho
      obtain ⟨eG, gG⟩ := sOk_1 so
      refine .inl ⟨p, dx, l1, l2, hs, ls, G, rfl, hp, hdx, D0.h1, D0.h2, D0.r, n1, n6, eG, hall, fun g hg => ⟨(gG g hg).1, lt100 (D0.b3 g hg), (gG g hg).2⟩, fun H1 lh lk ks k1 hp1 lh0 hlh lk0 hlk hKK => ?_⟩
      have n3 : l3 ≠ p := ne_of hl3 hp (fun z => nomatch z)
      refine ⟨_, rfl, _, rfl, p, C, dx, _, _, rfl, hp1, T.cl, T.nS, pf_size _ _ _, l3, kn, hs.length, rfl, SqL.of (k1 _ _ n3 hl3), lt101 kl, fun H2 s2 => ⟨_, rfl, ?_⟩⟩
      rw [bad]
      refine iteT ⟨rfl, fun v hv => ?_, fun e he => ?_⟩
      · cases List.mem_singleton.mp hv
        exact .inr ⟨_, rfl, by decide⟩
      · have fr : H e = none := by
          cases q : H e with
          | none => rfl
          | some o =>
            by_cases ne : e = p
            · subst ne
              rw [s2 _ _ hp1] at he
              cases he
            · rw [s2 _ _ (k1 e o ne q)] at he
              cases he
        exact boom _ e (fun q o ne z => (s2.trans (Same.new he)) _ _ (k1 q o ne z)) fr upd_same
theorem scPErr : FnScope ["_law_which", "_law_hears", "_law_says", "_law_knows", "_law_e"] ["_law_which", "_law_hears", "_law_says", "_law_knows"] (defScope sPErr) := ⟨rfl, rfl, rfl, by decide +kernel, rfl, by decide +kernel, by decide +kernel⟩
theorem ok_pErr {f fP fK Cp Ck Cd Cb : Addr} {fd fdP fdK : FuncData} {r : Errs} (F : Fun K "_law_person_error" "_law_person_error" sPErr f fd) (mgP : mg "Person" = some (.ref Cp)) (mgK : mg "Knower" = some (.ref Ck)) (mgD : mg "Doubter" = some (.ref Cd)) (mgB : mg "KnowingDoubter" = some (.ref Cb))
    (MP : Mk K Cp fP) (MD : Mk K Cd fP) (MK : Mk K Ck fK) (MB : Mk K Cb fK) (O1 : FnOk P w K mg base (L2N.CX P w) 4 fP fdP ["self", "hears", "says"] (spPInitX K Cp r.c5)) (O2 : FnOk P w K mg base (L2N.CX P w) 4 fP fdP ["self", "hears", "says"] (spPInitX K Cd r.c5)) (bP : Binds K fdP ["self", "hears", "says"] [])
    (O3 : FnOk P w K mg base (L2N.CX P w) 5 fK fdK ["self", "hears", "says", "knows"] (spKInitX K Ck r.c5)) (O4 : FnOk P w K mg base (L2N.CX P w) 5 fK fdK ["self", "hears", "says", "knows"] (spKInitX K Cb r.c5)) (bK : Binds K fdK ["self", "hears", "says", "knows"] [])
    (h : Hk P K mg r) (RU : ErX P K mg r "BadPerson" ["part"] r.c5) (x55 : PySem.W.exmOne K (.ref r.c5) (.ref r.c5) = some true) :
    FnOk P w K mg base CX0 7 f fd ["_law_which", "_law_hears", "_law_says", "_law_knows"] spPErr := by
  obtain ⟨fg, fdg', FG, mSg, bSg⟩ := h.single
  refine F.ok scPErr (fun vs H Q E h => ?_) (fun cdv A outer s H vs Q E hr hh' => ?_)
  · obtain ⟨i, l1, l2, l3, hs, ls, G, kn, rfl, _⟩ := h
    rfl
  · obtain ⟨i, l1, l2, l3, hs, ls, G, kn, rfl, hi, D0, h3, kl, k⟩ := hh'
    have hr1 : Room 1 _ := hr.mono (by decide)
    have hr5 : Room 5 _ := hr.mono (by decide)
    refine ⟨_, pss_cons (L2N.ps_try_clauses (i := 4) rfl rfl scPErr.nd rfl rfl takesF (fun W pn xe tk _ => pss_one (ps_if (pt_cmpR op_eq (pv 0) pe_int (nomark _))
          (pss_one (ps_expr (pe_make MP O1 hr5 rfl mgP bP .nil (passTry 5 tk) (pa_cons (pv 1) (pa_cons (pv 2) pa_nil)))))
          (pss_one (ps_if (pt_cmpR op_eq (pv 0) pe_int (nomark _)) (pss_one (ps_expr (pe_make MD O2 hr5 rfl mgD bP .nil (passTry 5 tk) (pa_cons (pv 1) (pa_cons (pv 2) pa_nil)))))
          (pss_one (ps_if (pt_cmpR op_eq (pv 0) pe_int (nomark _)) (pss_one (ps_expr (pe_make MK O3 hr rfl mgK bK .nil (passTry 5 tk) (pa_cons (pv 1) (pa_cons (pv 2) (pa_cons (pv 3) pa_nil))))))
          (pss_one (ps_expr (pe_make MB O4 hr rfl mgB bK .nil (passTry 5 tk) (pa_cons (pv 1) (pa_cons (pv 2) (pa_cons (pv 3) pa_nil))))))))))))
        (.cons ⟨rfl, by decide, .inl h.G.e5⟩ (fun a oe cls d pn hz hf => pss_one (ps_ret (pe_lst (pa_cons (pe_xf RU.xf (RU.no _ (by simp)) hz.zc hf (pv 4)) (pa_cons (pe_single 4 (ok_single FG h.G) hr1 hz hf mSg FG.kp bSg) pa_nil)))))
        .nil))
      (pss_one (ps_ret (pe_lst pa_nil))), ?_⟩
    by_cases c1 : hOk hs = false
    · rw [show verd i hs G kn = some ("hears" : Str) by unfold verd; rw [if_pos c1]] at k
      replace k : NewL H Q [.str "hears", .bl true] := k
      match i, hi, k with
      | 0, _, k => exact ⟨_, rfl, rfl, _, rfl, iteT ⟨_, rfl, _, rfl, fun x dx hx hdx ndx => .inr ⟨x, dx, l1, l2, hs, ls, G, rfl, upd_same, (made (C := Cp) hx hdx ndx).2, D0.same (made (C := Cp) hx hdx ndx).1, .inl ⟨c1, boom_made hx hdx ndx (fun H2 d s2 d0 hd σ hσ => ⟨true, x55, iteT fun a _ => ⟨_, slot_set hσ (by decide), rfl, rfl, d, _, _, rfl, hd, rfl, slot_set hσ (by decide), r.c5, d, _, rfl, rfl, RU.kit, hd, fun H3 s3 => ⟨by show 2 ≤ sizeLine; decide, fun q hq => k _ q ((s2.trans s3).trans (Same.new hq)) ((s2.trans s3).free hq) upd_same⟩⟩⟩)⟩⟩⟩⟩
      | 1, _, k => exact ⟨_, rfl, rfl, _, rfl, iteF ⟨_, rfl, rfl, _, rfl, iteT ⟨_, rfl, _, rfl, fun x dx hx hdx ndx => .inr ⟨x, dx, l1, l2, hs, ls, G, rfl, upd_same, (made (C := Cd) hx hdx ndx).2, D0.same (made (C := Cd) hx hdx ndx).1, .inl ⟨c1, boom_made hx hdx ndx (fun H2 d s2 d0 hd σ hσ => ⟨true, x55, iteT fun a _ => ⟨_, slot_set hσ (by decide), rfl, rfl, d, _, _, rfl, hd, rfl, slot_set hσ (by decide), r.c5, d, _, rfl, rfl, RU.kit, hd, fun H3 s3 => ⟨by show 2 ≤ sizeLine; decide, fun q hq => k _ q ((s2.trans s3).trans (Same.new hq)) ((s2.trans s3).free hq) upd_same⟩⟩⟩)⟩⟩⟩⟩⟩
      | 2, _, k => exact ⟨_, rfl, rfl, _, rfl, iteF ⟨_, rfl, rfl, _, rfl, iteF ⟨_, rfl, rfl, _, rfl, iteT ⟨_, rfl, _, rfl, _, rfl, fun x dx hx hdx ndx => .inr ⟨x, dx, l1, l2, l3, hs, ls, G, kn, rfl, upd_same, (made (C := Ck) hx hdx ndx).2, D0.same (made (C := Ck) hx hdx ndx).1, (made (C := Ck) hx hdx ndx).1 _ _ h3, kl, .inl ⟨c1, boom_made hx hdx ndx (fun H2 d s2 d0 hd σ hσ => ⟨true, x55, iteT fun a _ => ⟨_, slot_set hσ (by decide), rfl, rfl, d, _, _, rfl, hd, rfl, slot_set hσ (by decide), r.c5, d, _, rfl, rfl, RU.kit, hd, fun H3 s3 => ⟨by show 2 ≤ sizeLine; decide, fun q hq => k _ q ((s2.trans s3).trans (Same.new hq)) ((s2.trans s3).free hq) upd_same⟩⟩⟩)⟩⟩⟩⟩⟩⟩
      | 3, _, k => exact ⟨_, rfl, rfl, _, rfl, iteF ⟨_, rfl, rfl, _, rfl, iteF ⟨_, rfl, rfl, _, rfl, iteF ⟨_, rfl, _, rfl, _, rfl, fun x dx hx hdx ndx => .inr ⟨x, dx, l1, l2, l3, hs, ls, G, kn, rfl, upd_same, (made (C := Cb) hx hdx ndx).2, D0.same (made (C := Cb) hx hdx ndx).1, (made (C := Cb) hx hdx ndx).1 _ _ h3, kl, .inl ⟨c1, boom_made hx hdx ndx (fun H2 d s2 d0 hd σ hσ => ⟨true, x55, iteT fun a _ => ⟨_, slot_set hσ (by decide), rfl, rfl, d, _, _, rfl, hd, rfl, slot_set hσ (by decide), r.c5, d, _, rfl, rfl, RU.kit, hd, fun H3 s3 => ⟨by show 2 ≤ sizeLine; decide, fun q hq => k _ q ((s2.trans s3).trans (Same.new hq)) ((s2.trans s3).free hq) upd_same⟩⟩⟩)⟩⟩⟩⟩⟩⟩
    · have o1 : hOk hs = true := by simpa using c1
      obtain ⟨n1, n6, hall⟩ := hOk_1 o1
      by_cases c2 : sOk hs.length G = false
      · rw [show verd i hs G kn = some ("says" : Str) by unfold verd; rw [if_neg c1, if_pos c2]] at k
        replace k : NewL H Q [.str "says", .bl true] := k
        match i, hi, k with
        | 0, _, k => exact ⟨_, rfl, rfl, _, rfl, iteT ⟨_, rfl, _, rfl, fun x dx hx hdx ndx => .inr ⟨x, dx, l1, l2, hs, ls, G, rfl, upd_same, (made (C := Cp) hx hdx ndx).2, D0.same (made (C := Cp) hx hdx ndx).1, .inr ⟨o1, c2, boom_made hx hdx ndx (fun H2 d s2 d0 hd σ hσ => ⟨true, x55, iteT fun a _ => ⟨_, slot_set hσ (by decide), rfl, rfl, d, _, _, rfl, hd, rfl, slot_set hσ (by decide), r.c5, d, _, rfl, rfl, RU.kit, hd, fun H3 s3 => ⟨by show 2 ≤ sizeLine; decide, fun q hq => k _ q ((s2.trans s3).trans (Same.new hq)) ((s2.trans s3).free hq) upd_same⟩⟩⟩)⟩⟩⟩⟩
        | 1, _, k => exact ⟨_, rfl, rfl, _, rfl, iteF ⟨_, rfl, rfl, _, rfl, iteT ⟨_, rfl, _, rfl, fun x dx hx hdx ndx => .inr ⟨x, dx, l1, l2, hs, ls, G, rfl, upd_same, (made (C := Cd) hx hdx ndx).2, D0.same (made (C := Cd) hx hdx ndx).1, .inr ⟨o1, c2, boom_made hx hdx ndx (fun H2 d s2 d0 hd σ hσ => ⟨true, x55, iteT fun a _ => ⟨_, slot_set hσ (by decide), rfl, rfl, d, _, _, rfl, hd, rfl, slot_set hσ (by decide), r.c5, d, _, rfl, rfl, RU.kit, hd, fun H3 s3 => ⟨by show 2 ≤ sizeLine; decide, fun q hq => k _ q ((s2.trans s3).trans (Same.new hq)) ((s2.trans s3).free hq) upd_same⟩⟩⟩)⟩⟩⟩⟩⟩
        | 2, _, k => exact ⟨_, rfl, rfl, _, rfl, iteF ⟨_, rfl, rfl, _, rfl, iteF ⟨_, rfl, rfl, _, rfl, iteT ⟨_, rfl, _, rfl, _, rfl, fun x dx hx hdx ndx => .inr ⟨x, dx, l1, l2, l3, hs, ls, G, kn, rfl, upd_same, (made (C := Ck) hx hdx ndx).2, D0.same (made (C := Ck) hx hdx ndx).1, (made (C := Ck) hx hdx ndx).1 _ _ h3, kl, .inr (.inl ⟨o1, c2, boom_made hx hdx ndx (fun H2 d s2 d0 hd σ hσ => ⟨true, x55, iteT fun a _ => ⟨_, slot_set hσ (by decide), rfl, rfl, d, _, _, rfl, hd, rfl, slot_set hσ (by decide), r.c5, d, _, rfl, rfl, RU.kit, hd, fun H3 s3 => ⟨by show 2 ≤ sizeLine; decide, fun q hq => k _ q ((s2.trans s3).trans (Same.new hq)) ((s2.trans s3).free hq) upd_same⟩⟩⟩)⟩)⟩⟩⟩⟩⟩
        | 3, _, k => exact ⟨_, rfl, rfl, _, rfl, iteF ⟨_, rfl, rfl, _, rfl, iteF ⟨_, rfl, rfl, _, rfl, iteF ⟨_, rfl, _, rfl, _, rfl, fun x dx hx hdx ndx => .inr ⟨x, dx, l1, l2, l3, hs, ls, G, kn, rfl, upd_same, (made (C := Cb) hx hdx ndx).2, D0.same (made (C := Cb) hx hdx ndx).1, (made (C := Cb) hx hdx ndx).1 _ _ h3, kl, .inr (.inl ⟨o1, c2, boom_made hx hdx ndx (fun H2 d s2 d0 hd σ hσ => ⟨true, x55, iteT fun a _ => ⟨_, slot_set hσ (by decide), rfl, rfl, d, _, _, rfl, hd, rfl, slot_set hσ (by decide), r.c5, d, _, rfl, rfl, RU.kit, hd, fun H3 s3 => ⟨by show 2 ≤ sizeLine; decide, fun q hq => k _ q ((s2.trans s3).trans (Same.new hq)) ((s2.trans s3).free hq) upd_same⟩⟩⟩)⟩)⟩⟩⟩⟩⟩
      · have o2 : sOk hs.length G = true := by simpa using c2
        obtain ⟨eG, gG⟩ := sOk_1 o2
        have gG2 : ∀ g ∈ G, 1 ≤ g.length ∧ g.length < sizeLine ∧ g.all (isW hs.length) = true := fun g hg => ⟨(gG g hg).1, lt100 (D0.b3 g hg), (gG g hg).2⟩
        by_cases c3 : kn.all (isW hs.length) = false
        · by_cases ci : 2 ≤ i
          · rw [show verd i hs G kn = some ("knows" : Str) by unfold verd; rw [if_neg c1, if_neg c2, if_pos ⟨ci, c3⟩]] at k
            replace k : NewL H Q [.str "knows", .bl true] := k
            match i, hi, ci, k with
            | 2, _, _, k => exact ⟨_, rfl, rfl, _, rfl, iteF ⟨_, rfl, rfl, _, rfl, iteF ⟨_, rfl, rfl, _, rfl, iteT ⟨_, rfl, _, rfl, _, rfl, fun x dx hx hdx ndx => .inr ⟨x, dx, l1, l2, l3, hs, ls, G, kn, rfl, upd_same, (made (C := Ck) hx hdx ndx).2, D0.same (made (C := Ck) hx hdx ndx).1, (made (C := Ck) hx hdx ndx).1 _ _ h3, kl, .inr (.inr ⟨o1, o2, c3, boom_made hx hdx ndx (fun H2 d s2 d0 hd σ hσ => ⟨true, x55, iteT fun a _ => ⟨_, slot_set hσ (by decide), rfl, rfl, d, _, _, rfl, hd, rfl, slot_set hσ (by decide), r.c5, d, _, rfl, rfl, RU.kit, hd, fun H3 s3 => ⟨by show 2 ≤ sizeLine; decide, fun q hq => k _ q ((s2.trans s3).trans (Same.new hq)) ((s2.trans s3).free hq) upd_same⟩⟩⟩)⟩)⟩⟩⟩⟩⟩
            | 3, _, _, k => exact ⟨_, rfl, rfl, _, rfl, iteF ⟨_, rfl, rfl, _, rfl, iteF ⟨_, rfl, rfl, _, rfl, iteF ⟨_, rfl, _, rfl, _, rfl, fun x dx hx hdx ndx => .inr ⟨x, dx, l1, l2, l3, hs, ls, G, kn, rfl, upd_same, (made (C := Cb) hx hdx ndx).2, D0.same (made (C := Cb) hx hdx ndx).1, (made (C := Cb) hx hdx ndx).1 _ _ h3, kl, .inr (.inr ⟨o1, o2, c3, boom_made hx hdx ndx (fun H2 d s2 d0 hd σ hσ => ⟨true, x55, iteT fun a _ => ⟨_, slot_set hσ (by decide), rfl, rfl, d, _, _, rfl, hd, rfl, slot_set hσ (by decide), r.c5, d, _, rfl, rfl, RU.kit, hd, fun H3 s3 => ⟨by show 2 ≤ sizeLine; decide, fun q hq => k _ q ((s2.trans s3).trans (Same.new hq)) ((s2.trans s3).free hq) upd_same⟩⟩⟩)⟩)⟩⟩⟩⟩⟩
          · rw [show verd i hs G kn = none by unfold verd; rw [if_neg c1, if_neg c2, if_neg (fun z => ci z.1)]] at k
            replace k : NewL H Q [] := k
            have back : ∀ {H1 : Hp}, Same H H1 → ([] : List V).length ≤ sizeLine ∧ ∀ q2, H1 q2 = none → Q (.ref q2) (upd H1 q2 (.lst [])) := fun {H1} s1 => ⟨Nat.zero_le _, fun q2 hq2 => k _ q2 (s1.trans (Same.new hq2)) (s1.free hq2) upd_same⟩
            match i, hi, ci with
            | 0, _, _ => exact ⟨_, rfl, rfl, _, rfl, iteT ⟨_, rfl, _, rfl, fun x dx hx hdx ndx => .inl ⟨x, dx, l1, l2, hs, ls, G, rfl, upd_same, (made (C := Cp) hx hdx ndx).2, (made (C := Cp) hx hdx ndx).1 _ _ D0.h1, (made (C := Cp) hx hdx ndx).1 _ _ D0.h2, RowsL.same (made (C := Cp) hx hdx ndx).1 D0.r, n1, n6, eG, hall, gG2, fun H6 lh lk kk k6 _ _ _ _ _ _ => ⟨rfl, back (kept hx hdx ndx k6)⟩⟩⟩⟩
            | 1, _, _ => exact ⟨_, rfl, rfl, _, rfl, iteF ⟨_, rfl, rfl, _, rfl, iteT ⟨_, rfl, _, rfl, fun x dx hx hdx ndx => .inl ⟨x, dx, l1, l2, hs, ls, G, rfl, upd_same, (made (C := Cd) hx hdx ndx).2, (made (C := Cd) hx hdx ndx).1 _ _ D0.h1, (made (C := Cd) hx hdx ndx).1 _ _ D0.h2, RowsL.same (made (C := Cd) hx hdx ndx).1 D0.r, n1, n6, eG, hall, gG2, fun H6 lh lk kk k6 _ _ _ _ _ _ => ⟨rfl, back (kept hx hdx ndx k6)⟩⟩⟩⟩⟩
            | i + 2, _, ci => omega
        · have o3 : kn.all (isW hs.length) = true := by simpa using c3
          rw [show verd i hs G kn = none by unfold verd; rw [if_neg c1, if_neg c2, if_neg (fun z => c3 z.2)]] at k
          replace k : NewL H Q [] := k
          have back : ∀ {H1 : Hp}, Same H H1 → ([] : List V).length ≤ sizeLine ∧ ∀ q2, H1 q2 = none → Q (.ref q2) (upd H1 q2 (.lst [])) := fun {H1} s1 => ⟨Nat.zero_le _, fun q2 hq2 => k _ q2 (s1.trans (Same.new hq2)) (s1.free hq2) upd_same⟩
          match i, hi with
          | 0, _ => exact ⟨_, rfl, rfl, _, rfl, iteT ⟨_, rfl, _, rfl, fun x dx hx hdx ndx => .inl ⟨x, dx, l1, l2, hs, ls, G, rfl, upd_same, (made (C := Cp) hx hdx ndx).2, (made (C := Cp) hx hdx ndx).1 _ _ D0.h1, (made (C := Cp) hx hdx ndx).1 _ _ D0.h2, RowsL.same (made (C := Cp) hx hdx ndx).1 D0.r, n1, n6, eG, hall, gG2, fun H6 lh lk kk k6 _ _ _ _ _ _ => ⟨rfl, back (kept hx hdx ndx k6)⟩⟩⟩⟩
          | 1, _ => exact ⟨_, rfl, rfl, _, rfl, iteF ⟨_, rfl, rfl, _, rfl, iteT ⟨_, rfl, _, rfl, fun x dx hx hdx ndx => .inl ⟨x, dx, l1, l2, hs, ls, G, rfl, upd_same, (made (C := Cd) hx hdx ndx).2, (made (C := Cd) hx hdx ndx).1 _ _ D0.h1, (made (C := Cd) hx hdx ndx).1 _ _ D0.h2, RowsL.same (made (C := Cd) hx hdx ndx).1 D0.r, n1, n6, eG, hall, gG2, fun H6 lh lk kk k6 _ _ _ _ _ _ => ⟨rfl, back (kept hx hdx ndx k6)⟩⟩⟩⟩⟩
          | 2, _ => exact ⟨_, rfl, rfl, _, rfl, iteF ⟨_, rfl, rfl, _, rfl, iteF ⟨_, rfl, rfl, _, rfl, iteT ⟨_, rfl, _, rfl, _, rfl, fun x dx hx hdx ndx => .inl ⟨x, dx, l1, l2, l3, hs, ls, G, kn, rfl, upd_same, (made (C := Ck) hx hdx ndx).2, (made (C := Ck) hx hdx ndx).1 _ _ D0.h1, (made (C := Ck) hx hdx ndx).1 _ _ D0.h2, RowsL.same (made (C := Ck) hx hdx ndx).1 D0.r, n1, n6, eG, hall, gG2, (made (C := Ck) hx hdx ndx).1 _ _ h3, o3, lt101 kl, fun H6 lh lk kk lq k6 _ _ _ _ _ _ _ _ => ⟨rfl, back (kept hx hdx ndx k6)⟩⟩⟩⟩⟩⟩
          | 3, _ => exact ⟨_, rfl, rfl, _, rfl, iteF ⟨_, rfl, rfl, _, rfl, iteF ⟨_, rfl, rfl, _, rfl, iteF ⟨_, rfl, _, rfl, _, rfl, fun x dx hx hdx ndx => .inl ⟨x, dx, l1, l2, l3, hs, ls, G, kn, rfl, upd_same, (made (C := Cb) hx hdx ndx).2, (made (C := Cb) hx hdx ndx).1 _ _ D0.h1, (made (C := Cb) hx hdx ndx).1 _ _ D0.h2, RowsL.same (made (C := Cb) hx hdx ndx).1 D0.r, n1, n6, eG, hall, gG2, (made (C := Cb) hx hdx ndx).1 _ _ h3, o3, lt101 kl, fun H6 lh lk kk lq k6 _ _ _ _ _ _ _ _ => ⟨rfl, back (kept hx hdx ndx k6)⟩⟩⟩⟩⟩⟩
end
end Toy
namespace Toy
open PySem PySem.Spec PyProof.Rows L2
def p2 : Nat → Int
  | 0 => 1
  | 1 => 2
  | 2 => 4
  | 3 => 8
  | 4 => 16
  | 5 => 32
  | _ => 64
theorem six' : ∀ i : Nat, i < 6 → ∃ d : Int, ([V.int 1, V.int 2, V.int 4, V.int 8, V.int 16, V.int 32] : List V)[i]? = some (.int d) ∧ 0 < d ∧ d < 1073741824 ∧ d = p2 i
  | 0, _ => ⟨1, rfl, by decide, by decide, rfl⟩
  | 1, _ => ⟨2, rfl, by decide, by decide, rfl⟩
  | 2, _ => ⟨4, rfl, by decide, by decide, rfl⟩
  | 3, _ => ⟨8, rfl, by decide, by decide, rfl⟩
  | 4, _ => ⟨16, rfl, by decide, by decide, rfl⟩
  | 5, _ => ⟨32, rfl, by decide, by decide, rfl⟩
  | i + 6, h => by omega
theorem seven' : ∀ i : Nat, 1 ≤ i → i ≤ 6 → ∃ d : Int, ([V.int 1, V.int 2, V.int 4, V.int 8, V.int 16, V.int 32, V.int 64] : List V)[i]? = some (.int d) ∧ 2 ≤ d ∧ d ≤ 64 ∧ d = p2 i
  | 0, h, _ => by omega
  | 1, _, _ => ⟨2, rfl, by decide, by decide, rfl⟩
  | 2, _, _ => ⟨4, rfl, by decide, by decide, rfl⟩
  | 3, _, _ => ⟨8, rfl, by decide, by decide, rfl⟩
  | 4, _, _ => ⟨16, rfl, by decide, by decide, rfl⟩
  | 5, _, _ => ⟨32, rfl, by decide, by decide, rfl⟩
  | 6, _, _ => ⟨64, rfl, by decide, by decide, rfl⟩
  | i + 7, _, h => by omega
theorem bit_step (v : Int) : ∀ i : Nat, i < 6 → v % p2 i = 0 → ¬ (v / p2 i % 2 = 1) → v % p2 (i + 1) = 0
  | 0, _, h1, h2 => by
    have h1 : v % (1 : Int) = 0 := h1
    have h2 : ¬ (v / (1 : Int) % 2 = 1) := h2
    show v % (2 : Int) = 0
    omega
  | 1, _, h1, h2 => by
    have h1 : v % (2 : Int) = 0 := h1
    have h2 : ¬ (v / (2 : Int) % 2 = 1) := h2
    show v % (4 : Int) = 0
    omega
  | 2, _, h1, h2 => by
    have h1 : v % (4 : Int) = 0 := h1
    have h2 : ¬ (v / (4 : Int) % 2 = 1) := h2
    show v % (8 : Int) = 0
    omega
  | 3, _, h1, h2 => by
    have h1 : v % (8 : Int) = 0 := h1
    have h2 : ¬ (v / (8 : Int) % 2 = 1) := h2
    show v % (16 : Int) = 0
    omega
  | 4, _, h1, h2 => by
    have h1 : v % (16 : Int) = 0 := h1
    have h2 : ¬ (v / (16 : Int) % 2 = 1) := h2
    show v % (32 : Int) = 0
    omega
  | 5, _, h1, h2 => by
    have h1 : v % (32 : Int) = 0 := h1
    have h2 : ¬ (v / (32 : Int) % 2 = 1) := h2
    show v % (64 : Int) = 0
    omega
  | i + 6, h, _, _ => by omega
theorem RowsL.offB {H : Hp} {b c : Addr} {ls : List V} {R} (h : RowsL H ls R) (hb : BoxAt H b c) : RowsL (off b H) ls R :=
  L2.Paired.mapP h fun _ r ⟨t, e, q⟩ => ⟨t, e, by
    obtain ⟨cs, i, pd, st, eb, _⟩ := hb
    rw [off_ne]
    · exact q
    · intro z
      rw [z, eb] at q
      have e : [V.ref c, .int i, .int pd, .int st] = vI r := HO.lst.inj (Option.some.inj q)
      cases r with
      | nil => cases e
      | cons x xs => cases e⟩
def spWords1 : Sp := fun vs H Q _ => ∃ (b c : Addr) (n : Nat) (least : Int), vs = [.ref b, .int n, .int least] ∧ BoxAt H b c ∧ 1 ≤ n ∧ n ≤ 6 ∧ 0 ≤ least ∧ least ≤ 1 ∧
  ∀ H' l ws, BoxAt H' b c → Same (off b H) (off b H') → off b H l = none → off b H' l = some (.lst (vI ws)) → Can n ws → (least = 1 → ws ≠ []) → Q (.ref l) H'
abbrev sOuts : Stmt := top 42
abbrev sPersonL : Stmt := top 43
/-- words that can be said -/
def Good (n : Nat) (g : List Int) : Prop := 1 ≤ g.length ∧ g.length ≤ 7 ∧ g.all (isW n) = true
def spOuts : Sp := fun vs H Q _ => ∃ (b c : Addr) (n : Nat), vs = [.ref b, .int n] ∧ BoxAt H b c ∧ 1 ≤ n ∧ n ≤ 6 ∧
  ∀ H' l ws, BoxAt H' b c → Same (off b H) (off b H') → off b H l = none → off b H' l = some (.lst (vI ws)) → Good n ws → Q (.ref l) H'
def spPersonL : Sp := fun vs H Q _ => ∃ (b c : Addr) (n : Nat), vs = [.ref b, .int n] ∧ BoxAt H b c ∧ 1 ≤ n ∧ n ≤ 6 ∧
  ∀ H' q l1 l2 l3 hs G ls rs, BoxAt H' b c → Same (off b H) (off b H') → off b H' q = some (.lst [.ref l1, .ref l2, .ref l3]) → off b H' l1 = some (.lst (vI hs)) → off b H' l2 = some (.lst ls) → RowsL (off b H') ls G →
    off b H' l3 = some (.lst rs) → RowsL (off b H') rs (pT hs (G.map fun g => asc g n)) → hs.length = n → hs.all (isW n) = true → G.length = n → (∀ g ∈ G, Good n g) → Q (.ref q) H'
def up (n : Nat) : List Int := (List.range n).map fun (i : Nat) => (i : Int)
theorem isW_of {n : Nat} {x : Int} (h : 0 ≤ x ∧ x < (n : Int)) : isW n x = true := by
  unfold isW
  rw [decide_eq_true h.1, decide_eq_true h.2]
  rfl
theorem rg_up (n : Nat) : rgV 0 (n : Int) = vI (up n) := by
  unfold rgV vI up
  rw [List.map_map, Int.sub_zero, Int.toNat_natCast]
  refine List.map_congr_left fun i _ => ?_
  show V.int (0 + (i : Int)) = V.int (i : Int)
  rw [Int.zero_add]
theorem up_len (n : Nat) : (up n).length = n := by unfold up; rw [List.length_map, List.length_range]
theorem up_all (n : Nat) : (up n).all (isW n) = true := List.all_eq_true.mpr fun x hx => by
  unfold up at hx
  obtain ⟨i, hi, rfl⟩ := List.mem_map.mp hx
  rw [isWn, decide_eq_true (List.mem_range.mp hi)]
theorem all_add {n : Nat} {ws : List Int} {r : Nat} (h : ws.all (isW n) = true) (hr : r < n) : (ws ++ [(r : Int)]).all (isW n) = true := by
  rw [List.all_append, h]
  show (isW n (r : Int) && true) = true
  rw [isWn, decide_eq_true hr]
  rfl
theorem vI_add {ws : List Int} {x : Int} : vI ws ++ [V.int x] = vI (ws ++ [x]) := by
  unfold vI
  rw [List.map_append]
  rfl
theorem rowT {hs : List Int} {G : List (List Int)} {n i j : Nat} (hy : hs[i]? = some (j : Int)) (hj : j < G.length) : (pT hs (G.map fun g => asc g n))[i]? = some (filt n fun o => decide ((o : Int) ∈ row G j)) := by
  rw [pT_at hy, Int.toNat_natCast]
  have e : row (G.map fun g => asc g n) j = asc (row G j) n := map_row hj
  rw [e]
  rfl
section
variable {P : Program} {w : World} {K : PySem.W.Frag} {mg : Str → Option Value} {base : Heap}
theorem ok_words1 {f : Addr} {fd : FuncData} (F : Fun K "_law_words" "_law_words" sWords f fd) (S : Lt K mg) : FnOk P w K mg base CX0 2 f fd ["_law_box_here", "_law_n", "_law_least"] spWords1 := by
  obtain ⟨fT, fdT, FT, mT, bT⟩ := S.take
  refine F.ok scWords (fun vs H Q E h => ?_) (fun cdv A outer s H vs Q E hr h => ?_)
  · obtain ⟨b, c, n, least, rfl, _⟩ := h
    rfl
  · obtain ⟨b, c, n, least, rfl, hb, n1, n6, l0, l1, k⟩ := h
    refine ⟨_, pss_cons (ps_set (i := 3) scWords.nd rfl (Or.inr rfl) (pe_op op_add (pv 2) (pe_call (ok_take FT S.B) hr rfl mT FT.kp bT .nil pass0 (pa_cons (pv 0) (pa_cons (pe_op op_sub
        (pe_ix ix_list (pe_lst (pa_cons pe_int (pa_cons pe_int (pa_cons pe_int (pa_cons pe_int (pa_cons pe_int (pa_cons pe_int (pa_cons pe_int pa_nil)))))))) (pv 1) (fun _ _ => rfl)) (pv 2)) pa_nil)))))
      (pss_one (ps_ret (pe_lc (own := [("_law_word", 4)]) (g := gName 4)
          (tt := tTest (tOp rEq (tOp (rI (fun _ j => 0 < j) fun i j => .int (i % j)) (tCB (fun xs H Q => (∃ i, xs = [.int i] ∧ Q (.int i) H) ∨ ∃ k, xs = [.bl k] ∧ Q (.int (if k then 1 else 0)) H) (tCons (tOp (rI CDiv fun i j => .int (i / j)) (tVar 3)
            (tOp (rIxL K) (tLst (tCons (tC (.int 1)) (tCons (tC (.int 2)) (tCons (tC (.int 4)) (tCons (tC (.int 8)) (tCons (tC (.int 16)) (tCons (tC (.int 32)) tNil))))))) (tVar 4))) tNil)) (tC (.int 2))) (tC (.int 1))))
          rfl scWords.nd (pi_range1 (by rfl) S.B.range (pa_cons (pv 1) pa_nil)) (blkOk_by (own := [("_law_word", 4)]) (N := ["_law_box_here", "_law_n", "_law_least", "_law_mask", "_law_word"]) (sc := defScope sWords) (by decide +kernel))
          (fun _ _ _ _ _ => pg_name (i := 4) scWords.nd rfl (Or.inl rfl))
          (fun _ _ _ _ _ => pts_one (pt_cmpR op_eq (pe_op op_mod (pe_callTy call_int1 (by rfl) S.B.int (by decide +kernel) (pa_cons (pe_op op_fdiv (pv 3)
            (pe_ix ix_list (pe_lst (pa_cons pe_int (pa_cons pe_int (pa_cons pe_int (pa_cons pe_int (pa_cons pe_int (pa_cons pe_int pa_nil))))))) (pv 4) (fun _ _ => rfl))) pa_nil)) pe_int) pe_int (nomark _)))
          (fun _ _ _ _ _ => pv 4)))), ?_⟩
    obtain ⟨d, hd, d2, d64, dp⟩ := seven' n n1 n6
    refine ⟨_, rfl, _, rfl, by show 7 ≤ sizeLine; decide, fun p hp => ?_⟩
    refine ⟨_, rfl, p, _, n, _, rfl, rfl, SqL.of upd_same, atI_nat hd, _, rfl, _, _, rfl, rfl, ?_⟩
    have pb := hb.ne hp
    have s0 := Same.new (H := H) (o := .lst [V.int 1, V.int 2, V.int 4, V.int 8, V.int 16, V.int 32, V.int 64]) hp
    refine ⟨b, c, d - least, rfl, hb.same s0, by omega, by omega, fun r H1 hr1 hb1 so1 => ?_⟩
    refine ⟨_, _, rfl, rfl, ?_⟩
    have so := L2.Same.trans (Same.off (b := b) s0) so1
    refine ⟨_, rfl, n, rfl, by omega, by omega, fun D hD => ?_⟩
    have nDb := hb1.ne hD
    have hDo : off b H D = none := so.free (off_free hD)
    refine lc_range (lo := 0) (n := n) (fun i H' => Same H1 H' ∧ ∃ ws, H' D = some (.lst (vI ws)) ∧ Can i ws ∧ (ws = [] → (least + (r : Int)) % p2 i = 0)) ⟨Same.new hD, [], upd_same, .nil, fun _ => by show _ % (1 : Int) = 0; omega⟩ ?_ ?_
    · rintro i H2 hi ⟨s2, ws, hd2, hc, hz⟩
      obtain ⟨e, he, e0, e1, ep⟩ := six' i (by omega)
      refine ⟨rfl, ?_⟩
      refine ⟨_, rfl, by show 6 ≤ sizeLine; decide, fun q hq => ?_⟩
      have nDq : D ≠ q := ne_of_none hd2 hq
      have s3 := Same.new (H := H2) (o := .lst [V.int 1, V.int 2, V.int 4, V.int 8, V.int 16, V.int 32]) hq
      refine ⟨_, rfl, q, _, _, _, rfl, rfl, SqL.of upd_same, at_of (j := i) (by omega) he, _, _, rfl, rfl, ⟨e0, e1⟩, .inl ⟨_, rfl, _, _, rfl, rfl, (by show (0 : Int) < 2; decide), rfl, _, rfl, ?_⟩⟩
      refine ite2 (fun _ => ?_) (fun no => ?_)
      · refine ⟨_, rfl, _, s3 _ _ hd2, ?_, Same.updN (s2.trans s3) hD, ws ++ [(i : Int)], ?_, hc.add, fun z => absurd z (by simp)⟩
        · rw [vI_len]
          exact Nat.lt_of_le_of_lt (Nat.le_trans hc.len (by omega : i ≤ 6)) (by decide)
        · rw [upd_same]
          unfold vI
          rw [List.map_append, Int.zero_add]
          rfl
      · exact ⟨s2.trans s3, ws, s3 _ _ hd2, hc.skip, fun z => bit_step _ i (by omega) (hz z) (by rw [← ep]; intro q; exact no (decide_eq_true (congrArg V.int q)))⟩
    · rintro H2 ⟨s2, ws, hd2, hc, hz⟩
      exact k H2 D ws (hb1.same s2) (so.trans (Same.off s2)) hDo (by rw [off_ne nDb]; exact hd2) hc fun e1 z => by
        have h0 := hz z
        rw [← dp, Int.emod_eq_of_lt (by omega) (by omega)] at h0
        omega
abbrev NOu : List Str := ["_law_box_here", "_law_n", "_law_kind", "_law_outs_here"]
theorem scOuts : FnScope NOu ["_law_box_here", "_law_n"] (defScope sOuts) := ⟨rfl, rfl, rfl, by decide +kernel, rfl, by decide +kernel, by decide +kernel⟩
theorem ok_outs {f : Addr} {fd : FuncData} (F : Fun K "_law_outs" "_law_outs" sOuts f fd) (S : Lt K mg) : FnOk P w K mg base CX0 3 f fd ["_law_box_here", "_law_n"] spOuts := by
  obtain ⟨fT, fdT, FT, mT, bT⟩ := S.take
  obtain ⟨fW, fdW, FW, mW, bW⟩ := S.words
  refine F.ok scOuts (fun vs H Q E h => ?_) (fun cdv A outer s H vs Q E hr h => ?_)
  · obtain ⟨b, c, n, rfl, _⟩ := h
    rfl
  · obtain ⟨b, c, n, rfl, hb, n1, n6, k⟩ := h
    have hr1 : Room 1 _ := hr.mono (by decide)
    refine ⟨_, pss_cons (ps_set (i := 2) scOuts.nd rfl (Or.inl rfl) (pe_call (ok_take FT S.B) hr1 rfl mT FT.kp bT .nil pass0 (pa_cons (pv 0) (pa_cons pe_int pa_nil))))
      (pss_cons (ps_if (pt_cmpR op_eq (pv 2) pe_int (nomark _)) (pss_one (ps_ret (pe_call (ok_words1 FW S) hr rfl mW FW.kp bW .nil pass0 (pa_cons (pv 0) (pa_cons (pv 1) (pa_cons pe_int pa_nil)))))) pss_nil)
      (pss_cons (ps_set (i := 3) scOuts.nd rfl (Or.inl rfl) (pe_lst (pa_cons (pe_call (ok_take FT S.B) hr1 rfl mT FT.kp bT .nil pass0 (pa_cons (pv 0) (pa_cons (pv 1) pa_nil))) pa_nil)))
      (C8.pss_cut (ps_if (pt_cmpR op_eq (pv 2) pe_int (nomark _)) (pss_one (ps_expr (pe_bm PySem.F.plainAttrs_list PySem.F.slot_list_append PySem.F.type_list_append mt_append (pv 3) (pa_cons (pe_call (ok_take FT S.B) hr1 rfl mT FT.kp bT .nil pass0 (pa_cons (pv 0) (pa_cons (pv 1) pa_nil))) pa_nil)))) pss_nil)
      (pss_one (ps_ret (pv 3)))))), ?_⟩
    refine ⟨_, rfl, b, c, 4, rfl, hb, by decide, by decide, fun kd H1 hk hb1 s1 => ?_⟩
    refine ⟨_, rfl, rfl, _, rfl, ite2 (fun _ => ?_) (fun _ => ?_)⟩
    · refine ⟨_, rfl, _, rfl, b, c, n, 1, rfl, hb1, n1, n6, by decide, by decide, fun H2 l ws hb2 s2 l0 hl hc ne => ?_⟩
      refine k H2 l ws hb2 (s1.trans s2) (s1.free l0) hl ⟨?_, Nat.le_trans hc.len (by omega), List.all_eq_true.mpr fun x hx => isW_of (hc.mem hx)⟩
      cases ws with
      | nil => exact absurd rfl (ne rfl)
      | cons x r => simp
    · refine ⟨_, rfl, _, rfl, b, c, (n : Int), rfl, hb1, by omega, by omega, fun r1 H2 hr1' hb2 s2 => ⟨by show 1 ≤ sizeLine; decide, fun q hq => ?_⟩⟩
      have qb := hb2.ne hq
      have qc := hb2.nec hq
      have q0 : off b H q = none := (s1.trans s2).free (off_free hq)
      have s3 : Same (off b H2) (off b (upd H2 q (.lst [V.int (r1 : Int)]))) := Same.off (Same.new hq)
      have hb3 := hb2.same (Same.new (o := .lst [V.int (r1 : Int)]) hq)
      have hq3 : off b (upd H2 q (.lst [V.int (r1 : Int)])) q = some (.lst (vI [(r1 : Int)])) := by rw [off_ne qb]; exact upd_same
      have s13 := s1.trans (s2.trans s3)
      generalize upd H2 q (.lst [V.int (r1 : Int)]) = H3 at s3 hb3 hq3 s13
      refine ⟨fun σ' H' => ∃ ws, σ' = [some (.ref b), some (.int n), some (.int kd), some (.ref q)] ∧ BoxAt H' b c ∧ Same (off b H) (off b H') ∧ off b H' q = some (.lst (vI ws)) ∧ Good n ws, ?_, ?_⟩
      · have g1 : Good n [(r1 : Int)] := ⟨by simp, by simp, by simpa using all_add (ws := []) rfl (by omega : r1 < n)⟩
        refine ⟨_, rfl, rfl, _, rfl, ite2 (fun _ => ?_) (fun _ => ⟨_, rfl, hb3, s13, hq3, g1⟩)⟩
        refine ⟨_, rfl, .inl ⟨rfl, _, SqL.of (off_le _ _ hq3)⟩, _, rfl, _, rfl, b, c, (n : Int), rfl, hb3, by omega, by omega, fun r H4 hr4 hb4 s4 => ?_⟩
        refine ⟨q, vI [(r1 : Int)], _, rfl, rfl, off_le _ _ (s4 _ _ hq3), by show 1 < sizeLine; decide, [(r1 : Int), (r : Int)], rfl, hb4.upd qb qc, ?_, ?_, by simp, by simp, ?_⟩
        · rw [off_updN qb]
          exact Same.updN (s13.trans s4) q0
        · rw [off_updN qb]
          exact upd_same
        · exact all_add (ws := [(r1 : Int)]) g1.2.2 (by omega)
      · rintro σ' H4 ⟨ws, rfl, hb4, s4, hq4, g⟩
        exact ⟨_, rfl, k H4 q ws hb4 s4 q0 hq4 g⟩
abbrev NPl : List Str := ["_law_box_here", "_law_n", "_law_hears", "_law_says", "_law_rows", "_law_word", "_law_k", "_law_out"]
theorem scPersonL : FnScope NPl ["_law_box_here", "_law_n"] (defScope sPersonL) := ⟨rfl, rfl, rfl, by decide +kernel, rfl, by decide +kernel, by decide +kernel⟩
theorem ok_personL {f o : Addr} {fd fdo : FuncData} (F : Fun K "_law_person" "_law_person" sPersonL f fd) (S : Lt K mg) (FO : Fun K "_law_outs" "_law_outs" sOuts o fdo) (mO : mg "_law_outs" = some (.ref o)) (bO : Binds K fdo ["_law_box_here", "_law_n"] []) : FnOk P w K mg base CX0 4 f fd ["_law_box_here", "_law_n"] spPersonL := by
  obtain ⟨fT, fdT, FT, mT, bT⟩ := S.take
  refine F.ok scPersonL (fun vs H Q E h => ?_) (fun cdv A outer s H vs Q E hr h => ?_)
  · obtain ⟨b, c, n, rfl, _⟩ := h
    rfl
  · obtain ⟨b, c, n, rfl, hb, n1, n6, k⟩ := h
    have hr1 : Room 1 _ := hr.mono (by decide)
    have hr3 : Room 3 _ := hr.mono (by decide)
    refine ⟨_, pss_cons (ps_set (i := 2) scPersonL.nd rfl (Or.inr rfl) (pe_listRg rfl (by rfl) S.B.list (prg_1 (by rfl) S.B.range (pv 1))))
      (C8.pss_cut (ps_if (pt_cmpR op_eq (pe_call (ok_take FT S.B) hr1 rfl mT FT.kp bT .nil pass0 (pa_cons (pv 0) (pa_cons pe_int pa_nil))) pe_int (nomark _))
        (pss_one (ps_set (i := 2) scPersonL.nd rfl (Or.inr rfl) (pe_lc (own := [("_law_k", 6)]) (g := gName 6) (tt := tYes) (te := tCall spTake [] E0 (tCons (tVar 0) (tCons (tVar 1) tNil))) rfl scPersonL.nd (pi_range1 (by rfl) S.B.range (pa_cons (pv 1) pa_nil)) (blkOk_by (own := [("_law_k", 6)]) (N := NPl) (sc := defScope sPersonL) (by decide +kernel))
          (fun _ _ _ _ _ => pg_name (i := 6) scPersonL.nd rfl (Or.inl rfl)) (fun _ _ _ _ _ => pts_nil) (fun _ _ _ _ _ => pe_call (ok_take FT S.B) hr1 rfl mT FT.kp bT .nil pass0 (pa_cons (pv 0) (pa_cons (pv 1) pa_nil)))))) pss_nil)
      (pss_cons (ps_set (i := 3) scPersonL.nd rfl (Or.inr rfl) (pe_lc (own := [("_law_k", 6)]) (g := gName 6) (tt := tYes) (te := tCall spOuts [] E0 (tCons (tVar 0) (tCons (tVar 1) tNil))) rfl scPersonL.nd (pi_range1 (by rfl) S.B.range (pa_cons (pv 1) pa_nil)) (blkOk_by (own := [("_law_k", 6)]) (N := NPl) (sc := defScope sPersonL) (by decide +kernel))
          (fun _ _ _ _ _ => pg_name (i := 6) scPersonL.nd rfl (Or.inl rfl)) (fun _ _ _ _ _ => pts_nil) (fun _ _ _ _ _ => pe_call (ok_outs FO S) hr3 rfl mO FO.kp bO .nil pass0 (pa_cons (pv 0) (pa_cons (pv 1) pa_nil)))))
      (pss_cons (ps_set (i := 4) scPersonL.nd rfl (Or.inl rfl) (pe_lst pa_nil))
      (pss_cons (ps_for PassesOwn.never rfl (pi_range1 (by rfl) S.B.range (pa_cons (pv 1) pa_nil)) (pg_name (i := 5) scPersonL.nd rfl (Or.inr rfl))
        (pss_one (ps_expr (pe_bm PySem.F.plainAttrs_list PySem.F.slot_list_append PySem.F.type_list_append mt_append (pv 4) (pa_cons
          (pe_lc (own := [("_law_out", 7)]) (g := gName 7) (tt := tTest (tOp (rIn K false) (tVar 7) (tOp (rIxL K) (tVar 3) (tOp (rIxL K) (tVar 2) (tVar 5))))) rfl scPersonL.nd (pi_range1 (by rfl) S.B.range (pa_cons (pv 1) pa_nil)) (blkOk_by (own := [("_law_out", 7)]) (N := NPl) (sc := defScope sPersonL) (by decide +kernel))
            (fun _ _ _ _ _ => pg_name (i := 7) scPersonL.nd rfl (Or.inl rfl)) (fun _ _ _ _ _ => pts_one (pt_cmpR op_in_seq (pv 7) (pe_ix ix_list (pv 3) (pe_ix ix_list (pv 2) (pv 5) (fun _ _ => rfl)) (fun _ _ => rfl)) (by rfl))) (fun _ _ _ _ _ => pv 7)) pa_nil)))))
      (pss_one (ps_ret (pe_lst (pa_cons (pv 2) (pa_cons (pv 3) (pa_cons (pv 4) pa_nil)))))))))), ?_⟩
    refine ⟨_, rfl, (n : Int), rfl, RgOk.of_le (by decide) (by omega) (by decide) (by omega), fun l0 h0 => ?_⟩
    have l0b := hb.ne h0
    rw [rg_up]
    have s0 : Same (off b H) (off b (upd H l0 (.lst (vI (up n))))) := Same.off (Same.new h0)
    have hb0 := hb.same (Same.new (o := .lst (vI (up n))) h0)
    have q0 : off b (upd H l0 (.lst (vI (up n)))) l0 = some (.lst (vI (up n))) := by rw [off_ne l0b]; exact upd_same
    generalize upd H l0 (.lst (vI (up n))) = H0 at s0 hb0 q0
    refine ⟨fun σ' H' => ∃ l1 hs, σ' = [some (.ref b), some (.int n), some (.ref l1), none, none, none, none, none] ∧ BoxAt H' b c ∧ Same (off b H) (off b H') ∧ off b H' l1 = some (.lst (vI hs)) ∧ hs.length = n ∧ hs.all (isW n) = true, ?_, ?_⟩
    · refine ⟨_, rfl, b, c, 3, rfl, hb0, by decide, by decide, fun r1 H1 hr1' hb1 s1 => ?_⟩
      refine ⟨rfl, _, rfl, ite2 (fun _ => ?_) (fun _ => ⟨l0, up n, rfl, hb1, s0.trans s1, s1 _ _ q0, up_len n, up_all n⟩)⟩
      refine ⟨_, rfl, n, rfl, by omega, by omega, fun D hD => ?_⟩
      have Db := hb1.ne hD
      have Dc := hb1.nec hD
      refine lc_range (lo := 0) (n := n) (fun i H' => BoxAt H' b c ∧ Same (off b H1) (off b H') ∧ ∃ hs, off b H' D = some (.lst (vI hs)) ∧ hs.length = i ∧ hs.all (isW n) = true) ⟨hb1.same (Same.new hD), Same.off (Same.new hD), [], by rw [off_ne Db]; exact upd_same, rfl, rfl⟩ ?_ ?_
      · rintro i H2 hi ⟨hb2, s2, hs, hd, el, ha⟩
        refine ⟨rfl, yesT (iteT ?_)⟩
        refine ⟨_, rfl, _, rfl, b, c, (n : Int), rfl, hb2, by omega, by omega, fun r H3 hr3 hb3 s3 => ?_⟩
        refine ⟨vI hs, off_le _ _ (s3 _ _ hd), ?_, hb3.upd Db Dc, ?_, hs ++ [(r : Int)], ?_, by rw [List.length_append, el]; rfl, all_add ha (by omega)⟩
        · rw [vI_len, el]
          exact Nat.lt_of_le_of_lt (by omega : i ≤ 6) (by decide)
        · rw [off_updN Db]
          exact Same.updN (s2.trans s3) (off_free hD)
        · rw [off_updN Db, upd_same, vI_add]
      · rintro H2 ⟨hb2, s2, hs, hd, el, ha⟩
        exact ⟨D, hs, rfl, hb2, (s0.trans s1).trans s2, hd, el, ha⟩
    rintro σ' H1 ⟨l1, hs, rfl, hb1, s1, q1, eh, ha⟩
    clear s0 hb0 q0
    refine ⟨_, rfl, n, rfl, by omega, by omega, fun D hD => ?_⟩
    have Db := hb1.ne hD
    have Dc := hb1.nec hD
    have D0 : off b H1 D = none := off_free hD
    refine lc_range (lo := 0) (n := n) (fun i H' => BoxAt H' b c ∧ Same (off b H1) (off b H') ∧ ∃ ks G, off b H' D = some (.lst ks) ∧ RowsN (off b H1) (off b H') ks G ∧ (∀ v ∈ ks, v ≠ .ref D) ∧ G.length = i ∧ ∀ g ∈ G, Good n g) ⟨hb1.same (Same.new hD), Same.off (Same.new hD), [], [], by rw [off_ne Db]; exact upd_same, .nil, fun _ h => (by cases h), rfl, fun _ h => (by cases h)⟩ ?_ ?_
    · rintro i H2 hi ⟨hb2, s2, ks, G, hk, hKs, nD, eG, hG⟩
      refine ⟨rfl, yesT (iteT ?_)⟩
      refine ⟨_, rfl, _, rfl, b, c, n, rfl, hb2, n1, n6, fun H3 l ws hb3 s3 lz hl g => ?_⟩
      have hk3 := s3 _ _ hk
      have lD : l ≠ D := (ne_of_none hk lz).symm
      obtain ⟨z1, z2⟩ := RowsN.snoc (o := .lst (ks ++ [.ref l])) (RowsN.same s3 hKs) nD hl (s2.free lz) lD
      refine ⟨ks, off_le _ _ hk3, ?_, hb3.upd Db Dc, ?_, ks ++ [.ref l], G ++ [ws], ?_, ?_, z2, by rw [List.length_append, eG]; rfl, ?_⟩
      · rw [Paired.length hKs, eG]
        exact Nat.lt_of_le_of_lt (by omega : i ≤ 6) (by decide)
      · rw [off_updN Db]
        exact Same.updN (s2.trans s3) D0
      · rw [off_updN Db, upd_same]
      · rw [off_updN Db]
        exact z1
      · intro g' h
        rcases List.mem_append.mp h with h | h
        · exact hG _ h
        · rw [List.mem_singleton.mp h]
          exact g
    rintro H2 ⟨hb2, s2, ks, G, hk, hKs, _, eG, hG⟩
    have q1' := s2 _ _ q1
    have s12 := s1.trans s2
    have R2 := RowsN.rows hKs
    -- the rows
    refine ⟨Nat.zero_le _, fun l3 h3 => ?_⟩
    have l3b := hb2.ne h3
    refine ⟨_, rfl, n, rfl, by omega, by omega, ?_⟩
    have eT : (pT hs (G.map fun g => asc g n)).length = n := by rw [pT_len, eh]
    refine for_range (lo := 0) (n := n) (fun i σ H' => ∃ v rs, σ = [some (.ref b), some (.int n), some (.ref l1), some (.ref D), some (.ref l3), v, none, none] ∧ Same H2 H' ∧ H' l3 = some (.lst rs) ∧ RowsL H' rs ((pT hs (G.map fun g => asc g n)).take i) ∧ ∀ v ∈ rs, v ≠ .ref l3) ⟨none, [], rfl, Same.new h3, upd_same, .nil, fun _ h => (by cases h)⟩ ?_ ?_
    · rintro i σ H3 hi ⟨v, rs, rfl, s3, hr3, hRs, n3⟩
      have e0 : (0 : Int) + (i : Int) = (i : Int) := Int.zero_add _
      rw [e0]
      obtain ⟨y, hy⟩ : ∃ y, hs[i]? = some y := ⟨_, List.getElem?_eq_getElem (by omega)⟩
      obtain ⟨j, rfl, hj⟩ := isW_at (List.all_eq_true.mp ha y (List.mem_of_getElem? hy))
      obtain ⟨u, hu, t, rfl, ht⟩ := L2.Paired.at2 R2 (at_row (by omega : j < G.length))
      refine ⟨_, rfl, .inl ⟨rfl, _, SqL.of hr3⟩, _, rfl, n, rfl, by omega, by omega, fun D2 hD2 => ?_⟩
      refine lc_range (lo := 0) (n := n) (fun g H' => Same H3 H' ∧ H' D2 = some (.lst (vI (filt g fun o => decide ((o : Int) ∈ row G j))))) ⟨Same.new hD2, upd_same⟩ ?_ ?_
      · rintro g H4 hg ⟨s4, hd4⟩
        have e1 : (0 : Int) + (g : Int) = (g : Int) := Int.zero_add _
        rw [e1]
        have s34 := s3.trans s4
        refine ⟨rfl, ?_⟩
        refine ⟨_, rfl, _, rfl, _, rfl, _, rfl, l1, _, i, _, rfl, rfl, SqL.of (s34 _ _ (off_le _ _ q1')), atI_nat (v := V.int (j : Int)) (by unfold vI; rw [List.getElem?_map, hy]; rfl), D, _, j, _, rfl, rfl, SqL.of (s34 _ _ (off_le _ _ hk)), atI_nat hu, t, _, rfl, .inl (SqL.of (s34 _ _ (off_le _ _ ht))), rfl, flat_vI _, _, rfl, ?_⟩
        show if (if false = true then !inV (.int (g : Int)) (vI (row G j)) else inV (.int (g : Int)) (vI (row G j))) = true then _ else _
        rw [if_neg Bool.false_ne_true, inV_vI]
        by_cases c1 : (g : Int) ∈ row G j
        · rw [decide_eq_true c1]
          refine iteT ⟨_, rfl, _, hd4, ?_, Same.updN s4 hD2, ?_⟩
          · rw [vI_len]
            exact Nat.lt_of_le_of_lt (Nat.le_trans (filt_len _ _) (by omega : g ≤ 6)) (by decide)
          · rw [upd_same, filt_yes (p := fun o : Nat => decide ((o : Int) ∈ row G j)) (by simp [c1]), vI_add]
        · rw [decide_eq_false c1]
          refine iteF ⟨s4, ?_⟩
          rw [filt_no (p := fun o : Nat => decide ((o : Int) ∈ row G j)) (by simp [c1])]
          exact hd4
      · rintro H4 ⟨s4, hd4⟩
        have hr4 := s4 _ _ hr3
        have D23 : D2 ≠ l3 := (ne_of_none hr3 hD2).symm
        obtain ⟨z1, z2⟩ := RowsL.snoc (o := .lst (rs ++ [.ref D2])) (RowsL.same s4 hRs) n3 hd4 D23
        refine ⟨l3, rs, _, rfl, rfl, hr4, ?_, _, rs ++ [.ref D2], rfl, Same.updN (s3.trans s4) h3, upd_same, ?_, z2⟩
        · rw [Paired.length hRs]
          exact Nat.lt_of_le_of_lt (Nat.le_trans (List.length_take_le _ _) (by omega : i ≤ 6)) (by decide)
        · rw [take_more (rowT hy (by omega))]
          exact z1
    · rintro σ H3 ⟨v, rs, rfl, s3, hr3, hRs, _⟩
      rw [show (pT hs (G.map fun g => asc g n)).take n = pT hs (G.map fun g => asc g n) from List.take_of_length_le (by omega)] at hRs
      refine ⟨_, rfl, _, rfl, _, rfl, by show 3 ≤ sizeLine; decide, fun q hq => ?_⟩
      have s4 := s3.trans (Same.new (o := .lst [.ref l1, .ref D, .ref l3]) hq)
      have hb3 := hb2.same s3
      have qb := hb3.ne hq
      have hb4 := hb2.same s4
      have so := Same.off (b := b) s4
      have R4 : RowsL (upd H3 q (.lst [.ref l1, .ref D, .ref l3])) rs _ := RowsL.same (Same.new hq) hRs
      have hr4 : upd H3 q (.lst [.ref l1, .ref D, .ref l3]) l3 = some (.lst rs) := (Same.new hq) _ _ hr3
      exact k _ q l1 D l3 hs G ks rs hb4 (s12.trans so) (by rw [off_ne qb]; exact upd_same) (so _ _ q1') (so _ _ hk) (RowsL.same so R2) (by rw [off_ne l3b]; exact hr4) (RowsL.offB R4 hb4) eh ha eG hG
end
end Toy
namespace Toy
open PySem PySem.Spec PyProof.Rows L2
abbrev sFar : Stmt := top 44
/-- an integer that is no word -/
def spFar : Sp := fun vs H Q _ => ∃ (b c : Addr) (n : Nat), vs = [.ref b, .int n] ∧ BoxAt H b c ∧ 1 ≤ n ∧ n ≤ 6 ∧ ∀ (x : Int) H', isW n x = false → x.natAbs ≤ 1000010 → BoxAt H' b c → Same (off b H) (off b H') → Q (.int x) H'
section
variable {P : Program} {w : World} {K : PySem.W.Frag} {mg : Str → Option Value} {base : Heap}
theorem scFar : FnScope ["_law_box_here", "_law_n"] ["_law_box_here", "_law_n"] (defScope sFar) := ⟨rfl, rfl, rfl, by decide +kernel, rfl, by decide +kernel, by decide +kernel⟩
theorem ok_far {f : Addr} {fd : FuncData} (F : Fun K "_law_far" "_law_far" sFar f fd) (S : Lt K mg) : FnOk P w K mg base CX0 2 f fd ["_law_box_here", "_law_n"] spFar := by
  obtain ⟨fT, fdT, FT, mT, bT⟩ := S.take
  refine F.ok scFar (fun vs H Q E h => ?_) (fun cdv A outer s H vs Q E hr h => ?_)
  · obtain ⟨b, c, n, rfl, _⟩ := h
    rfl
  · obtain ⟨b, c, n, rfl, hb, n1, n6, k⟩ := h
    refine ⟨_, pss_cons (ps_if (pt_cmpR op_eq (pe_call (ok_take FT S.B) hr rfl mT FT.kp bT .nil pass0 (pa_cons (pv 0) (pa_cons pe_int pa_nil))) pe_int (nomark _))
        (pss_one (ps_ret (pe_op op_sub (pe_un un_neg pe_int) (pe_call (ok_take FT S.B) hr rfl mT FT.kp bT .nil pass0 (pa_cons (pv 0) (pa_cons (pe_op op_pow pe_int pe_int) pa_nil)))))) pss_nil)
      (pss_one (ps_ret (pe_op op_add (pv 1) (pe_call (ok_take FT S.B) hr rfl mT FT.kp bT .nil pass0 (pa_cons (pv 0) (pa_cons (pe_op op_pow pe_int pe_int) pa_nil)))))), ?_⟩
    have far : ∀ {x : Int}, (x < 0 ∨ (n : Int) ≤ x) → isW n x = false := fun {x} h => by
      unfold isW
      rcases h with h | h
      · rw [decide_eq_false (by omega : ¬ (0 : Int) ≤ x)]; rfl
      · rw [decide_eq_false (by omega : ¬ x < (n : Int)), Bool.and_false]
    refine ⟨_, rfl, b, c, 2, rfl, hb, by decide, by decide, fun r H1 hr1 hb1 s1 => ?_⟩
    refine ⟨rfl, _, rfl, ite2 (fun _ => ?_) (fun _ => ?_)⟩
    · refine ⟨_, rfl, _, rfl, _, _, rfl, rfl, ⟨by decide, by decide, by decide⟩, b, c, _, rfl, hb1, by decide, by decide, fun r2 H2 hr2 hb2 s2 => ?_⟩
      have hr2' : (r2 : Int) < 1000000 := hr2
      exact ⟨_, _, rfl, rfl, k _ H2 (far (by omega)) (by omega) hb2 (s1.trans s2)⟩
    · refine ⟨_, rfl, _, rfl, _, _, rfl, rfl, ⟨by decide, by decide, by decide⟩, b, c, _, rfl, hb1, by decide, by decide, fun r2 H2 hr2 hb2 s2 => ?_⟩
      have hr2' : (r2 : Int) < 1000000 := hr2
      exact ⟨_, _, rfl, rfl, k _ H2 (far (by omega)) (by omega) hb2 (s1.trans s2)⟩
end
end Toy
namespace Toy
open PySem PySem.Spec PyProof.Rows L2
theorem setAtP {α β : Type} {F : α → β → Prop} {x : α} {y : β} (f : F x y) : ∀ {xs : List α} {ys : List β} (i : Nat), Paired F xs ys → Paired F (xs.set i x) (ys.set i y)
  | _, _, _, .nil => .nil
  | _, _, 0, .cons _ t => .cons f t
  | _, _, i + 1, .cons r t => .cons r (setAtP f i t)
theorem takeP {α β : Type} {F : α → β → Prop} : ∀ {xs : List α} {ys : List β} (i : Nat), Paired F xs ys → Paired F (xs.take i) (ys.take i)
  | _, _, _, .nil => by rw [List.take_nil, List.take_nil]; exact .nil
  | _, _, 0, .cons _ _ => .nil
  | _, _, i + 1, .cons r t => .cons r (takeP i t)
theorem ixN_at {n j : Nat} (h : j < n) : ixN n (j : Int) = some j := by
  unfold ixN
  rw [if_pos (by omega), if_pos (by omega), Int.toNat_natCast]
theorem RowsL.stay {H : Hp} {l : Addr} {xs : List V} {ls : List V} {R} (h : RowsL H ls R) (av : ∀ v ∈ ls, v ≠ .ref l) : RowsL (upd H l (.lst xs)) ls R :=
  PairedIn.map h fun v r hv ⟨t, e, q⟩ => ⟨t, e, by rw [upd_ne fun z => av v hv (by rw [e, z])]; exact q⟩
theorem all_bad {n : Nat} {g : List Int} {x : Int} (m : x ∈ g) (b : isW n x = false) : g.all (isW n) = false := by
  rw [List.all_eq_false]
  exact ⟨x, m, by rw [b]; exact Bool.false_ne_true⟩
theorem cut_front (ks : List V) : cutV ks none (some (-1)) = ks.take (ks.length - 1) := by
  unfold cutV
  rw [HT.sIx_none]
  show (ks.drop 0).take ((if (-1 : Int) < 0 then ((-1 : Int) + (ks.length : Int)).toNat else min (-1 : Int).toNat ks.length) - 0) = _
  rw [if_pos (by decide), List.drop_zero, Nat.sub_zero]
  congr 1
  omega
theorem _root_.L2.FnOk.plain {P : Program} {w : World} {K : PySem.W.Frag} {mg : Str → Option Value} {base : Heap} {CX : CXT} {k : Nat} {f : Addr} {fd : FuncData} {ps : List Str} {sp : Sp} (F : FnOk P w K mg base CX k f fd ps sp) (hb : Binds K fd ps []) : FnR P w K mg base CX k f sp :=
  (F.raw hb .nil).imp fun vs H Q E h => by rw [List.append_nil]; exact h
/-- the description under way -/
structure St14 (F : Hp) (b c : Addr) (d1 d2 : Addr) (hs : List Int) (ks : List V) (G : List (List Int)) (H : Hp) : Prop where
  bx : BoxAt H b c
  sm : Same F (off b H)
  f1 : F d1 = none
  f2 : F d2 = none
  n1 : d1 ≠ b
  m1 : d1 ≠ c
  n2 : d2 ≠ b
  m2 : d2 ≠ c
  d : Desc H d1 d2 hs ks G
  av1 : ∀ v ∈ ks, v ≠ .ref d1
  av2 : ∀ v ∈ ks, v ≠ .ref d2
  ne : d1 ≠ d2
section
variable {F H H' : Hp} {b c d1 d2 : Addr} {hs hs' : List Int} {ks ks' : List V} {G G' : List (List Int)}
theorem St14.le (h : St14 F b c d1 d2 hs ks G H) : Same F H := h.sm.trans off_le
theorem St14.same (h : St14 F b c d1 d2 hs ks G H) (s : Same H H') : St14 F b c d1 d2 hs ks G H' := ⟨h.bx.same s, h.sm.trans (Same.off s), h.f1, h.f2, h.n1, h.m1, h.n2, h.m2, h.d.same s, h.av1, h.av2, h.ne⟩
theorem St14.box (h : St14 F b c d1 d2 hs ks G H) (hb : BoxAt H' b c) (s : Same (off b H) (off b H')) : St14 F b c d1 d2 hs ks G H' :=
  ⟨hb, h.sm.trans s, h.f1, h.f2, h.n1, h.m1, h.n2, h.m2, ⟨off_le _ _ (s _ _ (by rw [off_ne h.n1]; exact h.d.h1)), off_le _ _ (s _ _ (by rw [off_ne h.n2]; exact h.d.h2)), RowsL.same off_le (RowsL.same s (RowsL.offB h.d.r h.bx)), h.d.b1, h.d.b2, h.d.b3⟩, h.av1, h.av2, h.ne⟩
theorem St14.set1 (h : St14 F b c d1 d2 hs ks G H) (l : hs'.length ≤ 100) : St14 F b c d1 d2 hs' ks G (upd H d1 (.lst (vI hs'))) :=
  ⟨h.bx.upd h.n1 h.m1, by rw [off_updN h.n1]; exact Same.updN h.sm h.f1, h.f1, h.f2, h.n1, h.m1, h.n2, h.m2, ⟨upd_same, by rw [upd_ne h.ne.symm]; exact h.d.h2, RowsL.stay h.d.r h.av1, l, h.d.b2, h.d.b3⟩, h.av1, h.av2, h.ne⟩
theorem St14.new1 {p : Addr} (h : St14 F b c d1 d2 hs ks G H) (hp : H p = some (.lst (vI hs'))) (f0 : F p = none) (pb : p ≠ b) (pc : p ≠ c) (p2 : p ≠ d2) (pk : ∀ v ∈ ks, v ≠ .ref p) (l : hs'.length ≤ 100) : St14 F b c p d2 hs' ks G H :=
  ⟨h.bx, h.sm, f0, h.f2, pb, pc, h.n2, h.m2, ⟨hp, h.d.h2, h.d.r, l, h.d.b2, h.d.b3⟩, pk, h.av2, p2⟩
theorem St14.new2 {p : Addr} (h : St14 F b c d1 d2 hs ks G H) (hp : H p = some (.lst ks')) (r : RowsL H ks' G') (f0 : F p = none) (pb : p ≠ b) (pc : p ≠ c) (p1 : d1 ≠ p) (k1 : ∀ v ∈ ks', v ≠ .ref d1) (k2 : ∀ v ∈ ks', v ≠ .ref p) (l : G'.length ≤ 100) (l2 : ∀ g ∈ G', g.length ≤ 100) : St14 F b c d1 p hs ks' G' H :=
  ⟨h.bx, h.sm, h.f1, f0, h.n1, h.m1, pb, pc, ⟨h.d.h1, hp, r, h.d.b1, l, l2⟩, k1, k2, p1⟩
theorem St14.fresh {p : Addr} (h : St14 F b c d1 d2 hs ks G H) (hp : H p = none) : F p = none ∧ p ≠ b ∧ p ≠ c ∧ p ≠ d1 ∧ p ≠ d2 ∧ ∀ v ∈ ks, v ≠ .ref p :=
  ⟨h.sm.free (off_free hp), h.bx.ne hp, h.bx.nec hp, (ne_of_none h.d.h1 hp).symm, (ne_of_none h.d.h2 hp).symm, fun v hv z => by
    obtain ⟨r, _, t, e, q⟩ := Paired.mem h.d.r hv
    rw [e] at z
    cases z
    rw [hp] at q
    cases q⟩
theorem set_mem {α : Type} {x v : α} : ∀ {xs : List α} {i : Nat}, v ∈ xs.set i x → v ∈ xs ∨ v = x := fun {xs i} h => by
  rcases List.mem_or_eq_of_mem_set h with h | h
  · exact .inl h
  · exact .inr h
theorem St14.set2 {t : Addr} {g : List Int} (h : St14 F b c d1 d2 hs ks G H) (i : Nat) (ht : H t = some (.lst (vI g))) (t1 : t ≠ d1) (t2 : t ≠ d2) (l : g.length ≤ 100) : St14 F b c d1 d2 hs (ks.set i (.ref t)) (G.set i g) (upd H d2 (.lst (ks.set i (.ref t)))) :=
  ⟨h.bx.upd h.n2 h.m2, by rw [off_updN h.n2]; exact Same.updN h.sm h.f2, h.f1, h.f2, h.n1, h.m1, h.n2, h.m2,
    ⟨by rw [upd_ne h.ne]; exact h.d.h1, upd_same, setAtP ⟨t, rfl, by rw [upd_ne t2]; exact ht⟩ i (RowsL.stay h.d.r h.av2), h.d.b1, by rw [List.length_set]; exact h.d.b2, fun x hx => (set_mem hx).elim (h.d.b3 x) fun e => by rw [e]; exact l⟩,
    fun v hv => (set_mem hv).elim (h.av1 v) fun e => by rw [e]; exact fun z => t1 (V.ref.inj z), fun v hv => (set_mem hv).elim (h.av2 v) fun e => by rw [e]; exact fun z => t2 (V.ref.inj z), h.ne⟩
end
theorem sOk_bad {n i : Nat} {G : List (List Int)} {g : List Int} (h : G[i]? = some g) (b : gOk n g = false) : sOk n G = false := by
  unfold sOk
  rw [show G.all (gOk n) = false by rw [List.all_eq_false]; exact ⟨g, List.mem_of_getElem? h, by rw [b]; exact Bool.false_ne_true⟩, Bool.and_false]
theorem RowsL.noBoxAt {H : Hp} {b c t : Addr} {ks : List V} {R} {i : Nat} (h : RowsL H ks R) (hu : ks[i]? = some (.ref t)) (hb : BoxAt H b c) : t ≠ b := fun z => by
  obtain ⟨g, hg, t', e, q⟩ := L2.Paired.at h hu
  cases e
  obtain ⟨cs, i, pd, st, eb, _⟩ := hb
  rw [z, eb] at q
  injection q with q
  injection q with q
  cases g with
  | nil => cases q
  | cons x xs => cases q
/-- what each kind has spoilt so far -/
def Phi (kd : Nat) (P R : List Nat) (hs : List Int) (G : List (List Int)) (hs' : List Int) (G' : List (List Int)) : Prop :=
  (kd ∈ P → hOk hs' = false) ∧ (kd ∉ P → hs' = hs) ∧ (kd ∈ R → kd = 1 ∨ kd = 6 ∨ sOk hs.length G' = false) ∧ (kd ∉ R → G' = G)
def dueS : Nat → Str
  | 0 => "hears"
  | 1 => "hears"
  | 2 => "says"
  | 3 => "says"
  | 4 => "says"
  | 5 => "knows"
  | 6 => "hears"
  | _ => "says"
theorem dueAt : ∀ i : Nat, i < 8 → ([V.str "hears", V.str "hears", V.str "says", V.str "says", V.str "says", V.str "knows", V.str "hears", V.str "says"] : List V)[i]? = some (.str (dueS i))
  | 0, _ => rfl
  | 1, _ => rfl
  | 2, _ => rfl
  | 3, _ => rfl
  | 4, _ => rfl
  | 5, _ => rfl
  | 6, _ => rfl
  | 7, _ => rfl
  | i + 8, h => by omega
def wanted (kd i : Nat) : List V := if kd = 5 ∧ i < 2 then [] else [.str (dueS kd), .bl true]
theorem verd_due {kd i : Nat} {hs hs' kn : List Int} {G G' : List (List Int)} (hk : kd < 8) (f : Phi kd [1, 0, 6] [4, 3, 2, 6, 7, 1] hs G hs' G') (good : hOk hs = true) (gs : sOk hs.length G = true) (b : 5 ≤ kd → kn.all (isW hs.length) = false) : told (verd i hs' G' kn) = wanted kd i := by
  obtain ⟨f1, f2, f3, f4⟩ := f
  have h1 : kd = 0 ∨ kd = 1 ∨ kd = 6 → told (verd i hs' G' kn) = [.str "hears", .bl true] := fun z => by
    have : hOk hs' = false := f1 (by rcases z with z | z | z <;> rw [z] <;> decide)
    unfold verd
    rw [if_pos this]
    rfl
  have h2 : kd = 2 ∨ kd = 3 ∨ kd = 4 ∨ kd = 7 → told (verd i hs' G' kn) = [.str "says", .bl true] := fun z => by
    have e : hs' = hs := f2 (by rcases z with z | z | z | z <;> rw [z] <;> decide)
    have n : sOk hs.length G' = false := by
      rcases f3 (by rcases z with z | z | z | z <;> rw [z] <;> decide) with y | y | y
      · omega
      · omega
      · exact y
    subst e
    unfold verd
    rw [if_neg (by rw [good]; exact Bool.noConfusion), if_pos n]
    rfl
  match kd, hk with
  | 0, _ => exact h1 (.inl rfl)
  | 1, _ => exact h1 (.inr (.inl rfl))
  | 6, _ => exact h1 (.inr (.inr rfl))
  | 2, _ => exact h2 (.inl rfl)
  | 3, _ => exact h2 (.inr (.inl rfl))
  | 4, _ => exact h2 (.inr (.inr (.inl rfl)))
  | 7, _ => exact h2 (.inr (.inr (.inr rfl)))
  | 5, _ =>
    have e : hs' = hs := f2 (by decide)
    have e2 : G' = G := f4 (by decide)
    subst e e2
    have bk := b (by decide)
    unfold verd wanted
    rw [if_neg (by rw [good]; exact Bool.noConfusion), if_neg (by rw [gs]; exact Bool.noConfusion)]
    by_cases z : i < 2
    · rw [if_neg (fun y => by omega), if_pos ⟨rfl, z⟩]
      rfl
    · rw [if_pos ⟨by omega, bk⟩, if_neg (fun y => z y.2)]
      rfl
theorem verd_good {i : Nat} {hs kn : List Int} {G : List (List Int)} (good : hOk hs = true) (gs : sOk hs.length G = true) (gk : kn.all (isW hs.length) = true) : told (verd i hs G kn) = [] := by
  unfold verd
  rw [if_neg (by rw [good]; exact Bool.noConfusion), if_neg (by rw [gs]; exact Bool.noConfusion), if_neg (fun z => by rw [gk] at z; exact Bool.noConfusion z.2)]
  rfl
theorem flat_due : ∀ i : Nat, flatOk (.str (dueS i)) = true
  | 0 => by decide +kernel
  | 1 => by decide +kernel
  | 2 => by decide +kernel
  | 3 => by decide +kernel
  | 4 => by decide +kernel
  | 5 => by decide +kernel
  | 6 => by decide +kernel
  | i + 7 => (by decide +kernel : flatOk (.str "says") = true)
theorem flat_want (kd i : Nat) : (wanted kd i).all flatOk = true := by
  unfold wanted
  split
  · rfl
  · show (flatOk (.str (dueS kd)) && (true && true)) = true
    rw [flat_due]
    rfl
abbrev sLaw : Stmt := top 46
section
variable {P : Program} {w : World} {K : PySem.W.Frag} {mg : Str → Option Value} {base : Heap}
structure Al (P : Program) (K : PySem.W.Frag) (mg : Str → Option Value) (r : Errs) (Ct Cp Ck Cd Cb fPI fKI : Addr) : Prop where
  L : Lt K mg
  G : Gs K mg Ct
  T0 : PT K mg Cp
  T1 : PT K mg Ck
  T2 : PT K mg Cd
  T3 : PT K mg Cb
  n1 : NoAttr K Ck "_known"
  n3 : NoAttr K Cb "_known"
  mgP : mg "Person" = some (.ref Cp)
  mgK : mg "Knower" = some (.ref Ck)
  mgD : mg "Doubter" = some (.ref Cd)
  mgB : mg "KnowingDoubter" = some (.ref Cb)
  sb : SupM.SupB P K mg
  mkP : Mk K Cp fPI
  mkK : Mk K Ck fKI
  mkD : Mk K Cd fPI
  mkB : Mk K Cb fKI
  pinit : ∃ fd, Fun K "__init__" "Person.__init__" sPInit fPI fd ∧ Binds K fd ["self", "hears", "says"] []
  kInit : ∃ cda cc fd, SupM.DefS P K Ck "__init__" "Knower.__init__" sKInit fKI cda cc fd ∧ Binds K fd ["self", "hears", "says", "knows"] []
  x1 : SupM.Next K Ck Ck "__init__" fPI
  x2 : SupM.Next K Cb Ck "__init__" fPI
  box : ∃ f fd, Fun K "_law_box" "_law_box" sBox f fd ∧ mg "_law_box" = some (.ref f) ∧ Binds K fd ["_law_script"] []
  outs : ∃ f fd, Fun K "_law_outs" "_law_outs" sOuts f fd ∧ mg "_law_outs" = some (.ref f) ∧ Binds K fd ["_law_box_here", "_law_n"] []
  person : ∃ f fd, Fun K "_law_person" "_law_person" sPersonL f fd ∧ mg "_law_person" = some (.ref f) ∧ Binds K fd ["_law_box_here", "_law_n"] []
  far : ∃ f fd, Fun K "_law_far" "_law_far" sFar f fd ∧ mg "_law_far" = some (.ref f) ∧ Binds K fd ["_law_box_here", "_law_n"] []
  pE : ∃ f fd, Fun K "_law_person_error" "_law_person_error" sPErr f fd ∧ mg "_law_person_error" = some (.ref f) ∧ Binds K fd ["_law_which", "_law_hears", "_law_says", "_law_knows"] []
  H : Hk P K mg r
  RU : ErX P K mg r "BadPerson" ["part"] r.c5
  x55 : PySem.W.exmOne K (.ref r.c5) (.ref r.c5) = some true
abbrev NL : List Str := ["_law_script", "_law_box_here", "_law_n", "_law_one", "_law_knows", "_law_hears", "_law_says", "_law_at", "_law_kind", "_law_bad", "_law_place", "_law_spoilt", "_law_due", "_law_which", "_law_wanted", "_law_row", "_law_word"]
theorem scLaw : FnScope NL ["_law_script"] (defScope sLaw) := ⟨rfl, rfl, rfl, by decide +kernel, rfl, by decide +kernel, by decide +kernel⟩
set_option maxHeartbeats 0 in
theorem ok_law {f Ct Cp Ck Cd Cb fPI fKI : Addr} {fd : FuncData} {r : Errs} (F : Fun K "law" "law" sLaw f fd) (S : Al P K mg r Ct Cp Ck Cd Cb fPI fKI) : FnOk P w K mg base CX0 8 f fd ["_law_script"] (spLaw K) := by
  obtain ⟨fT, fdT, FT, mT, bT⟩ := S.L.take
  obtain ⟨fWo, fdWo, FWo, mWo, bWo⟩ := S.L.words
  obtain ⟨fdPI, FPI, bPI⟩ := S.pinit
  obtain ⟨cda1, cc1, fdKI, DKI, bKI⟩ := S.kInit
  obtain ⟨fB, fdB, FB, mB, bB⟩ := S.box
  obtain ⟨fO, fdO, FO, mO, bO⟩ := S.outs
  obtain ⟨fP, fdP, FP, mP, bP⟩ := S.person
  obtain ⟨fF, fdF, FF, mF, bF⟩ := S.far
  obtain ⟨fE, fdE, FE, mE, bE⟩ := S.pE
  have B := S.L.B
  have Gs := S.G
  have R := S.RU.er
  have i0 := ok_pInitX (P := P) (w := w) (base := base) FPI Gs S.T0 R
  have i2 := ok_pInitX (P := P) (w := w) (base := base) FPI Gs S.T2 R
  have i1 := ok_kInitX DKI S.sb S.x1 ((ok_pInit (P := P) (w := w) (base := base) FPI Gs S.T1).plain bPI) ((ok_pInitX (P := P) (w := w) (base := base) FPI Gs S.T1 R).plain bPI) Gs S.T1 S.n1 R
  have i3 := ok_kInitX DKI S.sb S.x2 ((ok_pInit (P := P) (w := w) (base := base) FPI Gs S.T3).plain bPI) ((ok_pInitX (P := P) (w := w) (base := base) FPI Gs S.T3 R).plain bPI) Gs S.T3 S.n3 R
  have PE7 := ok_pErr FE S.mgP S.mgK S.mgD S.mgB S.mkP S.mkD S.mkK S.mkB i0 i2 bPI i1 i3 bKI S.H S.RU S.x55
  refine F.ok scLaw (fun vs H Q E h => ?_) (fun cdv A outer s H vs Q E hr h => ?_)
  · obtain ⟨a, ns, rfl, _⟩ := h
    rfl
  · obtain ⟨a, ns, rfl, hS, hlen, k⟩ := h
    have hr7 : Room 7 _ := hr
    have hr1 : Room 1 _ := hr.mono (by decide)
    have hr2 : Room 2 _ := hr.mono (by decide)
    have hr4 : Room 4 _ := hr.mono (by decide)
    refine ⟨_, pss_cons (ps_set (i := 1) scLaw.nd rfl (Or.inl rfl) (pe_call (ok_box FB B) hr1 rfl mB FB.kp bB .nil pass0 (pa_cons (pv 0) pa_nil)))
      (pss_cons (ps_set (i := 2) scLaw.nd rfl (Or.inl rfl) (pe_op op_add pe_int (pe_call (ok_take FT B) hr1 rfl mT FT.kp bT .nil pass0 (pa_cons (pv 1) (pa_cons pe_int pa_nil)))))
      (pss_cons (ps_set (i := 3) scLaw.nd rfl (Or.inl rfl) (pe_call (ok_personL FP S.L FO mO bO) hr4 rfl mP FP.kp bP .nil pass0 (pa_cons (pv 1) (pa_cons (pv 2) pa_nil))))
      (pss_cons (ps_set (i := 4) scLaw.nd rfl (Or.inl rfl) (pe_call (ok_words FWo S.L) hr2 rfl mWo FWo.kp bWo .nil pass0 (pa_cons (pv 1) (pa_cons (pv 2) (pa_cons pe_int pa_nil)))))
      (pss_cons (ps_set (i := 5) scLaw.nd rfl (Or.inl rfl) (pe_callTy call_list_of (by rfl) B.list (by decide +kernel) (pa_cons (pe_ix ix_list (pv 3) pe_int (fun _ _ => rfl)) pa_nil)))
      (pss_cons (ps_setLc (i := 6) (own := [("_law_row", 15)]) (g := (gName 15)) (tt := tYes) (te := (tCB (rLst K) (tCons (tVar 15) tNil))) rfl scLaw.nd rfl rfl (sw_true rfl rfl rfl (by decide +kernel)) (pi_list (pe_ix ix_list (pv 3) pe_int (fun _ _ => rfl))) (blkOk_by (own := [("_law_row", 15)]) (N := NL) (sc := defScope sLaw) (by decide +kernel)) (fun _ _ _ _ _ => (pg_name (i := 15) scLaw.nd rfl (Or.inl rfl))) (fun _ _ _ _ _ => pts_nil) (fun _ _ _ _ _ => (pe_callTy call_list_of (by rfl) B.list (by decide +kernel) (pa_cons (pv 15) pa_nil))))
      (pss_cons (ps_set (i := 7) scLaw.nd rfl (Or.inl rfl) (pe_call (ok_take FT B) hr1 rfl mT FT.kp bT .nil pass0 (pa_cons (pv 1) (pa_cons (pv 2) pa_nil))))
      (pss_cons (ps_set (i := 8) scLaw.nd rfl (Or.inl rfl) (pe_call (ok_take FT B) hr1 rfl mT FT.kp bT .nil pass0 (pa_cons (pv 1) (pa_cons pe_int pa_nil))))
      (pss_cons (ps_set (i := 9) scLaw.nd rfl (Or.inl rfl) (pe_call (ok_far FF S.L) hr2 rfl mF FF.kp bF .nil pass0 (pa_cons (pv 1) (pa_cons (pv 2) pa_nil))))
      (C8.pss_cut (ps_if (pt_cmpR op_in_seq (pv 8) (pe_lst (pa_cons pe_int (pa_cons pe_int pa_nil))) (by rfl)) (pss_one (ps_asg (pv 9) (pg_sub (pv 5) (pv 7) set_list))) pss_nil)
      (C8.pss_cut (ps_if (pt_cmpR op_eq (pv 8) pe_int (nomark _)) (pss_cons (ps_set (i := 5) scLaw.nd rfl (Or.inl rfl) (pe_ix ix_list (pe_lst (pa_cons (pe_lst pa_nil) (pa_cons (pe_lst (pa_cons pe_int (pa_cons pe_int (pa_cons pe_int (pa_cons pe_int (pa_cons pe_int (pa_cons pe_int (pa_cons pe_int pa_nil)))))))) (pa_cons (pe_op op_rep (pe_lst (pa_cons pe_int pa_nil)) pe_int) pa_nil)))) (pe_call (ok_take FT B) hr1 rfl mT FT.kp bT .nil pass0 (pa_cons (pv 1) (pa_cons pe_int pa_nil))) (fun _ _ => rfl)))
      (pss_one (ps_setLc (i := 6) (own := [("_law_word", 16)]) (g := (gName 16)) (tt := tYes) (te := (tLst (tCons (tC (.int 0)) tNil))) rfl scLaw.nd rfl rfl (sw_true rfl rfl rfl (by decide +kernel)) (pi_list (pv 5)) (blkOk_by (own := [("_law_word", 16)]) (N := NL) (sc := defScope sLaw) (by decide +kernel)) (fun _ _ _ _ _ => (pg_name (i := 16) scLaw.nd rfl (Or.inl rfl))) (fun _ _ _ _ _ => pts_nil) (fun _ _ _ _ _ => (pe_lst (pa_cons pe_int pa_nil)))))) pss_nil)
      (C8.pss_cut (ps_if (pt_cmpR op_in_seq (pv 8) (pe_lst (pa_cons pe_int (pa_cons pe_int (pa_cons pe_int pa_nil)))) (by rfl)) (pss_one (ps_set (i := 6) scLaw.nd rfl (Or.inl rfl) (pe_ix ix_list (pe_lst (pa_cons (pe_slice sl_list (pv 6) po_none (po_some (pe_un un_neg pe_int))) (pa_cons (pe_op op_cat (pv 6) (pe_lst (pa_cons (pe_lst (pa_cons pe_int pa_nil)) pa_nil))) (pa_cons (pe_lst pa_nil) pa_nil)))) (pe_call (ok_take FT B) hr1 rfl mT FT.kp bT .nil pass0 (pa_cons (pv 1) (pa_cons pe_int pa_nil))) (fun _ _ => rfl)))) pss_nil)
      (C8.pss_cut (ps_if (pt_cmpR op_eq (pv 8) pe_int (nomark _)) (pss_one (ps_asg (pe_lst pa_nil) (pg_sub (pv 6) (pv 7) set_list))) pss_nil)
      (C8.pss_cut (ps_if (pt_cmpR op_eq (pv 8) pe_int (nomark _)) (pss_cons (ps_set (i := 10) scLaw.nd rfl (Or.inl rfl) (pe_call (ok_take FT B) hr1 rfl mT FT.kp bT .nil pass0 (pa_cons (pv 1) (pa_cons (pe_op op_add (pe_callB call_len_seq (by rfl) B.len PySem.boot_len (pa_cons (pe_ix ix_list (pv 6) (pv 7) (fun _ _ => rfl)) pa_nil)) pe_int) pa_nil))))
      (pss_one (ps_asg (pe_op op_cat (pe_op op_cat (pe_slice sl_list (pe_ix ix_list (pv 6) (pv 7) (fun _ _ => rfl)) po_none (po_some (pv 10))) (pe_lst (pa_cons (pv 9) pa_nil))) (pe_slice sl_list (pe_ix ix_list (pv 6) (pv 7) (fun _ _ => rfl)) (po_some (pv 10)) po_none)) (pg_sub (pv 6) (pv 7) set_list)))) pss_nil)
      (pss_cons (ps_set (i := 11) scLaw.nd rfl (Or.inl rfl) (pe_callTy call_list_of (by rfl) B.list (by decide +kernel) (pa_cons (pv 4) pa_nil)))
      (C8.pss_cut (ps_if (pt_cmpR op_ge (pv 8) pe_int (nomark _)) (pss_one (ps_set (i := 11) scLaw.nd rfl (Or.inl rfl) (pe_ix ix_list (pe_lst (pa_cons (pe_op op_cat (pv 11) (pe_lst (pa_cons (pv 9) pa_nil))) (pa_cons (pe_op op_cat (pe_lst (pa_cons (pv 9) pa_nil)) (pv 11)) pa_nil))) (pe_call (ok_take FT B) hr1 rfl mT FT.kp bT .nil pass0 (pa_cons (pv 1) (pa_cons pe_int pa_nil))) (fun _ _ => rfl)))) pss_nil)
      (pss_cons (ps_set (i := 12) scLaw.nd rfl (Or.inl rfl) (pe_ix ix_list (pe_lst (pa_cons pe_str (pa_cons pe_str (pa_cons pe_str (pa_cons pe_str (pa_cons pe_str (pa_cons pe_str (pa_cons pe_str (pa_cons pe_str pa_nil))))))))) (pv 8) (fun _ _ => rfl)))
      (pss_cons (ps_for PassesOwn.never rfl (pi_range1 (by rfl) B.range (pa_cons pe_int pa_nil)) (pg_name (i := 13) scLaw.nd rfl (Or.inl rfl)) (pss_cons (ps_set (i := 14) scLaw.nd rfl (Or.inl rfl) (pe_lst (pa_cons (pv 12) (pa_cons pe_bl pa_nil))))
      (C8.pss_cut (ps_if (PW.pt (pw_and (pt_cmpR op_eq (pv 8) pe_int (nomark _)) (pw_and1 (pt_cmpR op_lt (pv 13) pe_int (nomark _))))) (pss_one (ps_set (i := 14) scLaw.nd rfl (Or.inl rfl) (pe_lst pa_nil))) pss_nil)
      (pss_cons (ps_if (pt_cmpR (op_neD hr.units) (pe_call PE7 hr7 rfl mE FE.kp bE .nil pass0 (pa_cons (pv 13) (pa_cons (pv 5) (pa_cons (pv 6) (pa_cons (pv 11) pa_nil))))) (pv 14) (nomark _)) (pss_one ps_never) pss_nil)
      (pss_one (ps_if (pt_cmpR (op_neD hr.units) (pe_call PE7 hr7 rfl mE FE.kp bE .nil pass0 (pa_cons (pv 13) (pa_cons (pe_ix ix_list (pv 3) pe_int (fun _ _ => rfl)) (pa_cons (pe_ix ix_list (pv 3) pe_int (fun _ _ => rfl)) (pa_cons (pv 4) pa_nil))))) (pe_lst pa_nil) (nomark _)) (pss_one ps_never) pss_nil)))))) (pss_one (ps_ret pe_bl))))))))))))))))))), ?_⟩
    refine ⟨_, rfl, a, ns, rfl, hS, hlen, fun H1 b c s1 hb0 hb1 => ?_⟩
    refine ⟨_, rfl, b, c, 6, rfl, hb1, by decide, by decide, fun r0 H2 hr2' hb2 s2 => ?_⟩
    refine ⟨_, _, rfl, rfl, ?_⟩
    have en : (1 : Int) + (r0 : Int) = ((r0 + 1 : Nat) : Int) := by omega
    have eV : (fun (i j : Int) => V.int (i + j)) 1 (r0 : Int) = V.int ((r0 + 1 : Nat) : Int) := congrArg V.int en
    rw [eV]
    have n1 : 1 ≤ r0 + 1 := by omega
    have n6 : r0 + 1 ≤ 6 := by omega
    generalize r0 + 1 = n at n1 n6
    refine ⟨_, rfl, _, rfl, b, c, n, rfl, hb2, n1, n6, fun H3 q l1 l2 l3 hs G ls rs hb3 s3 hq hl1 hl2 hG hl3 hT eh ha eG gG => ?_⟩
    subst eh
    clear en eV
    have el : ls.length = hs.length := (Paired.length hG).trans eG
    refine ⟨_, rfl, _, rfl, b, c, hs.length, 0, rfl, hb3, n1, n6, by decide, by decide, fun H4 lw ws hb4 s4 lw0 hlw cw => ?_⟩
    have hq := s4 _ _ hq
    have hl1 := s4 _ _ hl1
    have hl2 := s4 _ _ hl2
    have hG := RowsL.same s4 hG
    have wall : ws.all (isW hs.length) = true := List.all_eq_true.mpr fun x hx => isW_of (cw.mem hx)
    have wlen : ws.length ≤ 100 := Nat.le_trans (Nat.le_trans cw.len n6) (by decide)
    have good : hOk hs = true := by
      unfold hOk
      rw [decide_eq_true (by omega : (1 : Int) ≤ hs.length), decide_eq_true (by omega : (hs.length : Int) ≤ 6), ha]
      rfl
    have goods : sOk hs.length G = true := by
      unfold sOk
      rw [decide_eq_true eG, Bool.true_and, List.all_eq_true]
      intro g hg
      unfold gOk
      rw [decide_eq_true (by have := (gG g hg).1; omega), (gG g hg).2.2]
      rfl
    obtain ⟨Fr, hFr⟩ : ∃ F0, F0 = off b H4 := ⟨_, rfl⟩
    rw [← hFr] at hq hl1 hl2 hG hlw
    have f4 : Same Fr H4 := by rw [hFr]; exact off_le
    have fo : Same Fr (off b H4) := by rw [hFr]; exact Same.refl _
    have fr : ∀ {p : Addr}, H4 p = none → Fr p = none := fun h => by rw [hFr]; exact off_free h
    clear hFr
    have lwF := hlw
    clear s1 s2 s3 s4 lw0 hT hl3
    -- what it hears
    refine ⟨_, rfl, q, _, _, _, rfl, rfl, SqL.of (f4 _ _ hq), at_of (j := 0) rfl rfl, l1, _, rfl, .inl (SqL.of (f4 _ _ hl1)), fun D1 hD1 => ?_⟩
    have s45 : Same H4 (upd H4 D1 (.lst (vI hs))) := Same.new hD1
    have D15 : upd H4 D1 (.lst (vI hs)) D1 = some (.lst (vI hs)) := upd_same
    generalize upd H4 D1 (.lst (vI hs)) = H5 at s45 D15
    have f5 := f4.trans s45
    -- what it says
    refine ⟨_, rfl, q, _, _, _, rfl, rfl, SqL.of (f5 _ _ hq), at_of (j := 1) rfl rfl, l2, rfl, ⟨_, SqL.of (f5 _ _ hl2)⟩, fun D2 hD2 => ?_⟩
    refine lc_list (K := K) (a := l2) (xs := ls) (fun i H' => Same H5 H' ∧ ∃ ks, H' D2 = some (.lst ks) ∧ RowsN H5 H' ks (G.take i) ∧ ∀ v ∈ ks, v ≠ .ref D2) ⟨Same.new hD2, [], upd_same, .nil, fun _ h => by cases h⟩ (fun i H' _ ⟨s, _⟩ => SqL.of (s _ _ (f5 _ _ hl2))) ?_ ?_
    · rintro i y H' hi ⟨s5, ks, hk, hKs, nD⟩
      obtain ⟨g', hg', t, rfl, ht⟩ := L2.Paired.at (RowsL.same (f5.trans s5) hG) hi
      refine ⟨rfl, yesT (iteT ?_)⟩
      refine ⟨_, rfl, t, _, rfl, .inl (SqL.of ht), fun u hu => ?_⟩
      have nu : u ≠ D2 := (ne_of_none hk hu).symm
      have s6' := Same.new (H := H') (o := .lst (vI g')) hu
      obtain ⟨z1, z2⟩ := RowsN.snoc (G0 := H5) (o := .lst (ks ++ [.ref u])) (RowsN.same s6' hKs) nD upd_same (s5.free hu) nu
      refine ⟨ks, s6' _ _ hk, ?_, Same.updN (s5.trans s6') hD2, ks ++ [.ref u], upd_same, ?_, z2⟩
      · rw [Paired.length hKs]
        exact Nat.lt_of_le_of_lt (Nat.le_trans (List.length_take_le' _ _) (by omega : _ ≤ 6)) (by decide)
      · rw [take_more hg']
        exact z1
    rintro H6 ⟨s56, ks, hk, hKs, nD⟩
    rw [el, ← eG, List.take_length] at hKs
    have av1 : ∀ v ∈ ks, v ≠ .ref D1 := fun v hv z => by
      obtain ⟨g', hg', t, e, qt, qn⟩ := Paired.mem hKs hv
      rw [e] at z
      cases z
      rw [D15] at qn
      cases qn
    have sm6 : Same Fr (off b H6) := fo.trans (Same.off (b := b) (s45.trans s56))
    have ds6 : Desc H6 D1 D2 hs ks G := ⟨s56 _ _ D15, hk, RowsN.rows hKs, by omega, by omega, fun g hg => Nat.le_trans (gG g hg).2.1 (by decide)⟩
    have st : St14 Fr b c D1 D2 hs ks G H6 := ⟨(hb4.same s45).same s56, sm6, fr hD1, fr (s45.free hD2), hb4.ne hD1, hb4.nec hD1, (hb4.same s45).ne hD2, (hb4.same s45).nec hD2, ds6, av1, nD, ne_of_none D15 hD2⟩
    clear av1 sm6 ds6
    clear hKs nD hk s45 s56 D15 hD1 hD2 f5
    refine ⟨_, rfl, _, rfl, b, c, (hs.length : Int), rfl, st.bx, by omega, by omega, fun at0 H7 hat hb7 s7 => ?_⟩
    have st := st.box hb7 s7
    refine ⟨_, rfl, b, c, 8, rfl, hb7, by decide, by decide, fun kd H8 hkd hb8 s8 => ?_⟩
    have st := st.box hb8 s8
    refine ⟨_, rfl, _, rfl, b, c, hs.length, rfl, hb8, n1, n6, fun bad H9 wbad bbad hb9 s9 => ?_⟩
    have st := st.box hb9 s9
    clear s7 s8 s9 hb7 hb8 hb9
    have atl : at0 < hs.length := by omega
    have kl : kd < 8 := by omega
    -- a heard word
    refine ⟨(fun σ' H' => ∃ d1 d2 hs' ks' G' v10, σ' = [some (.ref a), some (.ref b), some (.int hs.length), some (.ref q), some (.ref lw), some (.ref d1), some (.ref d2), some (.int at0), some (.int kd), some (.int bad), v10, none, none, none, none, none, none] ∧ St14 Fr b c d1 d2 hs' ks' G' H' ∧ Phi kd [0, 6] [] hs G hs' G'), ?_, ?_⟩
    · refine ⟨_, rfl, by show 2 ≤ sizeLine; decide, fun p hp => ⟨p, vI [0, 6], rfl, .inl (SqL.of upd_same), rfl, flat_vI _, _, rfl, ?_⟩⟩
      show if (if false = true then !inV (.int (kd : Int)) (vI [0, 6]) else inV (.int (kd : Int)) (vI [0, 6])) = true then _ else _
      rw [if_neg Bool.false_ne_true, inV_vI]
      have st := st.same (Same.new (o := .lst (vI [0, 6])) hp)
      by_cases c1 : (kd : Int) ∈ ([0, 6] : List Int)
      · have ck : kd ∈ ([0, 6] : List Nat) := by simp at c1 ⊢; omega
        rw [decide_eq_true c1]
        refine iteT ⟨_, rfl, _, rfl, _, rfl, D1, _, _, at0, rfl, rfl, st.d.h1, ixN_at (by rw [vI_len]; exact atl), ?_⟩
        rw [show (vI hs).set at0 (V.int bad) = vI (hs.set at0 bad) by unfold vI; rw [List.map_set]]
        refine ⟨D1, D2, hs.set at0 bad, ks, G, _, rfl, st.set1 (by rw [List.length_set]; omega), fun _ => ?_, fun z => absurd ck z, fun z => (by cases z), fun _ => rfl⟩
        unfold hOk
        rw [List.length_set, all_bad (List.mem_of_getElem? (List.getElem?_set_self atl)) wbad, Bool.and_false]
      · have ck : kd ∉ ([0, 6] : List Nat) := fun z => c1 (by simp at z ⊢; omega)
        rw [decide_eq_false c1]
        exact iteF ⟨D1, D2, hs, ks, G, _, rfl, st, fun z => absurd z ck, fun _ => rfl, fun z => (by cases z), fun _ => rfl⟩
    clear st
    rintro σ' H10 ⟨d1, d2, hs', ks', G', v10, rfl, st, ph⟩
    -- how many words are heard
    refine ⟨(fun σ' H' => ∃ d1 d2 hs' ks' G' v10, σ' = [some (.ref a), some (.ref b), some (.int hs.length), some (.ref q), some (.ref lw), some (.ref d1), some (.ref d2), some (.int at0), some (.int kd), some (.int bad), v10, none, none, none, none, none, none] ∧ St14 Fr b c d1 d2 hs' ks' G' H' ∧ Phi kd [1, 0, 6] [1] hs G hs' G'), ?_, ?_⟩
    · refine ⟨_, rfl, rfl, _, rfl, ite2 (fun y => ?_) (fun no => ?_)⟩
      · have k1 : kd = 1 := by have := V.int.inj (of_decide_eq_true y); omega
        subst k1
        refine ⟨Nat.zero_le _, fun p1 h1 => ?_⟩
        obtain ⟨a1, a2, a3, a4, a5, a6⟩ := st.fresh h1
        have st := st.same (Same.new (o := .lst []) h1)
        have e1 : upd H10 p1 (.lst []) p1 = some (.lst []) := upd_same
        generalize upd H10 p1 (.lst []) = HA at st e1
        refine ⟨by show 7 ≤ sizeLine; decide, fun p2 h2 => ?_⟩
        obtain ⟨b1, b2, b3, b4, b5, b6⟩ := st.fresh h2
        have s2 := Same.new (o := .lst [V.int 0, V.int 1, V.int 2, V.int 3, V.int 4, V.int 5, V.int 6]) h2
        have st := st.same s2
        have e1 := s2 _ _ e1
        have e2 : upd HA p2 (.lst [V.int 0, V.int 1, V.int 2, V.int 3, V.int 4, V.int 5, V.int 6]) p2 = some (.lst [V.int 0, V.int 1, V.int 2, V.int 3, V.int 4, V.int 5, V.int 6]) := upd_same
        generalize upd HA p2 (.lst [V.int 0, V.int 1, V.int 2, V.int 3, V.int 4, V.int 5, V.int 6]) = HB at st e1 e2
        refine ⟨by show 1 ≤ sizeLine; decide, fun p3 h3 => ?_⟩
        have s3 := Same.new (o := .lst [V.int 0]) h3
        have st := st.same s3
        have e1 := s3 _ _ e1
        have e2 := s3 _ _ e2
        have e3 : upd HB p3 (.lst [V.int 0]) p3 = some (.lst [V.int 0]) := upd_same
        generalize upd HB p3 (.lst [V.int 0]) = HC at st e1 e2 e3
        refine ⟨p3, 8, [V.int 0], rfl, rfl, e3, by decide, by decide, by show 8 ≤ sizeLine; decide, fun p4 h4 => ?_⟩
        obtain ⟨c1, c2, c3, c4, c5, c6⟩ := st.fresh h4
        have s4 := Same.new (o := .lst (List.replicate (8 : Int).toNat [V.int 0]).flatten) h4
        have st := st.same s4
        have e1 := s4 _ _ e1
        have e2 := s4 _ _ e2
        have e4 : upd HC p4 (.lst (List.replicate (8 : Int).toNat [V.int 0]).flatten) p4 = some (.lst (List.replicate (8 : Int).toNat [V.int 0]).flatten) := upd_same
        generalize upd HC p4 (.lst (List.replicate (8 : Int).toNat [V.int 0]).flatten) = HD at st e1 e2 e4
        refine ⟨by show 3 ≤ sizeLine; decide, fun p5 h5 => ?_⟩
        have pb5 : p5 ≠ b := (st.fresh h5).2.1
        have s5 := Same.new (o := .lst [.ref p1, .ref p2, .ref p4]) h5
        have st := st.same s5
        have e1 := s5 _ _ e1
        have e2 := s5 _ _ e2
        have e4 := s5 _ _ e4
        have e5 : upd HD p5 (.lst [.ref p1, .ref p2, .ref p4]) p5 = some (.lst [.ref p1, .ref p2, .ref p4]) := upd_same
        generalize upd HD p5 (.lst [.ref p1, .ref p2, .ref p4]) = HE at st e1 e2 e4 e5
        refine ⟨_, rfl, b, c, 3, rfl, st.bx, by decide, by decide, fun r HF hr hbF sF => ?_⟩
        have st := st.box hbF sF
        have off5 : ∀ {z : Addr} {o : HO}, z ≠ b → HE z = some o → HF z = some o := fun {z o} n e => off_le _ _ (sF _ _ (by rw [off_ne n]; exact e))
        have e1 := off5 a2 e1
        have e2 := off5 b2 e2
        have e4 := off5 c2 e4
        have e5 := off5 pb5 e5
        obtain ⟨p, hs'', hp, hpe, bad', len', f0, pb, pc, p2', pk⟩ : ∃ (p : Addr) (hs'' : List Int), ([V.ref p1, V.ref p2, V.ref p4] : List V)[r]? = some (V.ref p) ∧ HF p = some (.lst (vI hs'')) ∧ hOk hs'' = false ∧ hs''.length ≤ 8 ∧ Fr p = none ∧ p ≠ b ∧ p ≠ c ∧ p ≠ d2 ∧ ∀ v ∈ ks', v ≠ .ref p := by
          have hr3 : r < 3 := by omega
          match r, hr3 with
          | 0, _ => exact ⟨p1, [], rfl, e1, by decide, by decide, a1, a2, a3, a5, a6⟩
          | 1, _ => exact ⟨p2, [0, 1, 2, 3, 4, 5, 6], rfl, e2, by decide, by decide, b1, b2, b3, b5, b6⟩
          | 2, _ => exact ⟨p4, [0, 0, 0, 0, 0, 0, 0, 0], rfl, e4, by decide, by decide, c1, c2, c3, c5, c6⟩
        refine ⟨p5, _, r, _, rfl, rfl, SqL.of e5, atI_nat hp, ?_⟩
        have st := st.new1 hpe f0 pb pc p2' pk (by omega)
        refine ⟨_, rfl, p, rfl, ⟨_, SqL.of hpe⟩, fun D hD => ?_⟩
        refine lc_list (K := K) (a := p) (xs := vI hs'') (fun i H' => Same HF H' ∧ ∃ kz, H' D = some (.lst kz) ∧ RowsL H' kz (List.replicate i [0]) ∧ (∀ v ∈ kz, v ≠ .ref D) ∧ ∀ v ∈ kz, v ≠ .ref p) ⟨Same.new hD, [], upd_same, .nil, fun _ h => (by cases h), fun _ h => (by cases h)⟩ (fun i H' _ ⟨s, _⟩ => SqL.of (s _ _ hpe)) ?_ ?_
        · rintro i y H' hi ⟨s', kz, hkz, hKz, nz, np⟩
          have il : i < hs''.length := by have := (List.getElem?_eq_some_iff.mp hi).1; rwa [vI_len] at this
          refine ⟨rfl, yesT (iteT ⟨by show 1 ≤ sizeLine; decide, fun t ht => ?_⟩)⟩
          have sn := Same.new (H := H') (o := .lst [V.int 0]) ht
          obtain ⟨z1, z2⟩ := RowsL.snoc (o := .lst (kz ++ [.ref t])) (RowsL.same sn hKz) nz (r := [0]) (by exact upd_same) (ne_of_none hkz ht).symm
          refine ⟨kz, sn _ _ hkz, ?_, Same.updN (s'.trans sn) hD, kz ++ [.ref t], upd_same, by rw [List.replicate_succ']; exact z1, z2, fun v hv => ?_⟩
          · rw [Paired.length hKz, List.length_replicate]
            exact Nat.lt_of_le_of_lt (by omega : i ≤ 8) (by decide)
          · rcases List.mem_append.mp hv with hv | hv
            · exact np v hv
            · rw [List.mem_singleton.mp hv]
              exact fun z => ne_of_none (s' _ _ hpe) ht (V.ref.inj z).symm
        · rintro H' ⟨s', kz, hkz, hKz, nz, np⟩
          obtain ⟨g1, g2, g3, g4, g5, g6⟩ := st.fresh hD
          have st := (st.same s').new2 hkz hKz g1 g2 g3 g4.symm np nz (by rw [List.length_replicate, vI_len]; omega) (fun g hg => by rw [(List.mem_replicate.mp hg).2]; decide)
          exact ⟨p, D, hs'', kz, _, _, rfl, st, fun _ => bad', fun z => absurd (by decide) z, fun _ => .inl rfl, fun z => absurd (by decide) z⟩
      · have nk : kd ≠ 1 := fun z => no (decide_eq_true (by rw [z]; rfl))
        refine ⟨d1, d2, hs', ks', G', _, rfl, st, fun z => ph.1 (by simp at z ⊢; omega), fun z => ph.2.1 (fun y => z (by simp at y ⊢; omega)), fun z => absurd (by simpa using z) nk, fun z => ph.2.2.2 (by simp)⟩
    clear st ph
    rintro σ' H10 ⟨d1, d2, hs', ks', G', v10, rfl, st, ph⟩
    -- how many lists
    refine ⟨(fun σ' H' => ∃ d1 d2 hs' ks' G' v10, σ' = [some (.ref a), some (.ref b), some (.int hs.length), some (.ref q), some (.ref lw), some (.ref d1), some (.ref d2), some (.int at0), some (.int kd), some (.int bad), v10, none, none, none, none, none, none] ∧ St14 Fr b c d1 d2 hs' ks' G' H' ∧ Phi kd [1, 0, 6] [2, 6, 7, 1] hs G hs' G'), ?_, ?_⟩
    · refine ⟨_, rfl, by show 3 ≤ sizeLine; decide, fun p hp => ⟨p, vI [2, 6, 7], rfl, .inl (SqL.of upd_same), rfl, flat_vI _, _, rfl, ?_⟩⟩
      show if (if false = true then !inV (.int (kd : Int)) (vI [2, 6, 7]) else inV (.int (kd : Int)) (vI [2, 6, 7])) = true then _ else _
      rw [if_neg Bool.false_ne_true, inV_vI]
      have st := st.same (Same.new (o := .lst [V.int 2, V.int 6, V.int 7]) hp)
      by_cases c1 : (kd : Int) ∈ ([2, 6, 7] : List Int)
      · have ck : kd = 2 ∨ kd = 6 ∨ kd = 7 := by simp at c1; omega
        rw [decide_eq_true c1]
        have eG' : G' = G := ph.2.2.2 (fun z => by rw [List.mem_singleton] at z; omega)
        rw [eG'] at st
        have lk : ks'.length = hs.length := (Paired.length st.d.r).trans eG
        generalize upd H10 p (.lst [V.int 2, V.int 6, V.int 7]) = H11 at st
        refine iteT ⟨_, rfl, _, rfl, _, rfl, d2, _, rfl, SqL.of st.d.h2, fun p1 h1 => ?_⟩
        rw [cut_front]
        obtain ⟨a1, a2, a3, a4, a5, a6⟩ := st.fresh h1
        have st := st.same (Same.new (o := .lst (ks'.take (ks'.length - 1))) h1)
        have e1 : upd H11 p1 (.lst (ks'.take (ks'.length - 1))) p1 = some (.lst (ks'.take (ks'.length - 1))) := upd_same
        generalize upd H11 p1 (.lst (ks'.take (ks'.length - 1))) = HA at st e1
        refine ⟨_, rfl, by show 1 ≤ sizeLine; decide, fun p2 h2 => ?_⟩
        obtain ⟨b1, b2, b3, b4, b5, b6⟩ := st.fresh h2
        have s2 := Same.new (o := .lst [V.int 0]) h2
        have st := st.same s2
        have e1 := s2 _ _ e1
        have e2 : upd HA p2 (.lst [V.int 0]) p2 = some (.lst [V.int 0]) := upd_same
        generalize upd HA p2 (.lst [V.int 0]) = HB at st e1 e2
        refine ⟨by show 1 ≤ sizeLine; decide, fun p3 h3 => ?_⟩
        have s3 := Same.new (o := .lst [.ref p2]) h3
        have st := st.same s3
        have e1 := s3 _ _ e1
        have e2 := s3 _ _ e2
        have e3 : upd HB p3 (.lst [.ref p2]) p3 = some (.lst [.ref p2]) := upd_same
        generalize upd HB p3 (.lst [.ref p2]) = HC at st e1 e2 e3
        refine ⟨d2, p3, _, _, rfl, rfl, st.d.h2, e3, by show ks'.length + 1 ≤ sizeLine; exact Nat.le_trans (by omega : _ ≤ 7) (by decide), fun p4 h4 => ?_⟩
        obtain ⟨c1, c2, c3, c4, c5, c6⟩ := st.fresh h4
        have p42 : p2 ≠ p4 := ne_of_none e2 h4
        have s4 := Same.new (o := .lst (ks' ++ [.ref p2])) h4
        have st := st.same s4
        have e1 := s4 _ _ e1
        have e2 := s4 _ _ e2
        have e4 : upd HC p4 (.lst (ks' ++ [.ref p2])) p4 = some (.lst (ks' ++ [.ref p2])) := upd_same
        generalize upd HC p4 (.lst (ks' ++ [.ref p2])) = HD at st e1 e2 e4
        refine ⟨Nat.zero_le _, fun p5 h5 => ?_⟩
        obtain ⟨g1, g2, g3, g4, g5, g6⟩ := st.fresh h5
        have s5 := Same.new (o := .lst []) h5
        have st := st.same s5
        have e1 := s5 _ _ e1
        have e2 := s5 _ _ e2
        have e4 := s5 _ _ e4
        have e5 : upd HD p5 (.lst []) p5 = some (.lst []) := upd_same
        generalize upd HD p5 (.lst []) = HD1 at st e1 e2 e4 e5
        refine ⟨by show 3 ≤ sizeLine; decide, fun p6 h6 => ?_⟩
        have pb6 : p6 ≠ b := (st.fresh h6).2.1
        have s6 := Same.new (o := .lst [.ref p1, .ref p4, .ref p5]) h6
        have st := st.same s6
        have e1 := s6 _ _ e1
        have e2 := s6 _ _ e2
        have e4 := s6 _ _ e4
        have e5 := s6 _ _ e5
        have e6 : upd HD1 p6 (.lst [.ref p1, .ref p4, .ref p5]) p6 = some (.lst [.ref p1, .ref p4, .ref p5]) := upd_same
        generalize upd HD1 p6 (.lst [.ref p1, .ref p4, .ref p5]) = HE at st e1 e2 e4 e5 e6
        refine ⟨_, rfl, b, c, 3, rfl, st.bx, by decide, by decide, fun r HF hr hbF sF => ?_⟩
        have st := st.box hbF sF
        have off5 : ∀ {z : Addr} {o : HO}, z ≠ b → HE z = some o → HF z = some o := fun {z o} n e => off_le _ _ (sF _ _ (by rw [off_ne n]; exact e))
        have e1 := off5 a2 e1
        have e2 := off5 b2 e2
        have e4 := off5 c2 e4
        have e5 := off5 g2 e5
        have e6 := off5 pb6 e6
        have tk : ∀ v ∈ ks'.take (ks'.length - 1), v ∈ ks' := fun v hv => List.mem_of_mem_take hv
        obtain ⟨p', ks'', G'', hp', hpe, hr', f0, pb, pc, p1', k1, k2, l1', l2', bad'⟩ : ∃ (p' : Addr) (ks'' : List V) (G'' : List (List Int)), ([V.ref p1, V.ref p4, V.ref p5] : List V)[r]? = some (V.ref p') ∧ HF p' = some (.lst ks'') ∧ RowsL HF ks'' G'' ∧ Fr p' = none ∧ p' ≠ b ∧ p' ≠ c ∧ d1 ≠ p' ∧ (∀ v ∈ ks'', v ≠ .ref d1) ∧ (∀ v ∈ ks'', v ≠ .ref p') ∧ G''.length ≤ 100 ∧ (∀ g ∈ G'', g.length ≤ 100) ∧ G''.length ≠ hs.length := by
          have hr3 : r < 3 := by omega
          match r, hr3 with
          | 0, _ => exact ⟨p1, _, G.take (ks'.length - 1), rfl, e1, takeP _ st.d.r, a1, a2, a3, a4.symm, fun v hv => st.av1 v (tk v hv), fun v hv => a6 v (tk v hv), by rw [List.length_take]; omega, fun g hg => st.d.b3 g (List.mem_of_mem_take hg), by rw [List.length_take]; omega⟩
          | 1, _ => exact ⟨p4, _, G ++ [[0]], rfl, e4, L2.Paired.snoc ⟨p2, rfl, e2⟩ st.d.r, c1, c2, c3, c4.symm, fun v hv => (List.mem_append.mp hv).elim (st.av1 v) fun z => by rw [List.mem_singleton.mp z]; exact fun y => b4 (V.ref.inj y), fun v hv => (List.mem_append.mp hv).elim (c6 v) fun z => by rw [List.mem_singleton.mp z]; exact fun y => p42 (V.ref.inj y), by rw [List.length_append]; show G.length + 1 ≤ 100; omega,
              fun g hg => (List.mem_append.mp hg).elim (st.d.b3 g) fun z => by rw [List.mem_singleton.mp z]; decide, by rw [List.length_append]; show G.length + 1 ≠ _; omega⟩
          | 2, _ => exact ⟨p5, [], [], rfl, e5, .nil, g1, g2, g3, g4.symm, fun v hv => (by cases hv), fun v hv => (by cases hv), by decide, fun g hg => (by cases hg), by show 0 ≠ hs.length; omega⟩
        refine ⟨p6, _, r, _, rfl, rfl, SqL.of e6, atI_nat hp', ?_⟩
        have st := st.new2 hpe hr' f0 pb pc p1' k1 k2 l1' l2'
        refine ⟨d1, p', hs', ks'', G'', _, rfl, st, ph.1, ph.2.1, fun _ => .inr (.inr ?_), fun z => absurd (by simp; omega) z⟩
        unfold sOk
        rw [decide_eq_false bad', Bool.false_and]
      · have ck : ¬ (kd = 2 ∨ kd = 6 ∨ kd = 7) := fun z => c1 (by simp; omega)
        rw [decide_eq_false c1]
        exact iteF ⟨d1, d2, hs', ks', G', _, rfl, st, ph.1, ph.2.1, fun z => ph.2.2.1 (by simp at z ⊢; omega), fun z => ph.2.2.2 (fun y => z (by simp at y ⊢; omega))⟩
    clear st ph
    rintro σ' H10 ⟨d1, d2, hs', ks', G', v10, rfl, st, ph⟩
    -- an empty list
    refine ⟨(fun σ' H' => ∃ d1 d2 hs' ks' G' v10, σ' = [some (.ref a), some (.ref b), some (.int hs.length), some (.ref q), some (.ref lw), some (.ref d1), some (.ref d2), some (.int at0), some (.int kd), some (.int bad), v10, none, none, none, none, none, none] ∧ St14 Fr b c d1 d2 hs' ks' G' H' ∧ Phi kd [1, 0, 6] [3, 2, 6, 7, 1] hs G hs' G'), ?_, ?_⟩
    · refine ⟨_, rfl, rfl, _, rfl, ite2 (fun y => ?_) (fun no => ?_)⟩
      · have k1 : kd = 3 := by have := V.int.inj (of_decide_eq_true y); omega
        subst k1
        have eG' : G' = G := ph.2.2.2 (by decide)
        rw [eG'] at st
        have lk : ks'.length = hs.length := (Paired.length st.d.r).trans eG
        refine ⟨Nat.zero_le _, fun t ht => ?_⟩
        obtain ⟨a1, a2, a3, a4, a5, a6⟩ := st.fresh ht
        have st := st.same (Same.new (o := .lst []) ht)
        have e1 : upd H10 t (.lst []) t = some (.lst []) := upd_same
        generalize upd H10 t (.lst []) = HA at st e1
        refine ⟨_, rfl, _, rfl, d2, _, _, at0, rfl, rfl, st.d.h2, ixN_at (by omega), ?_⟩
        refine ⟨d1, d2, hs', _, _, _, rfl, st.set2 at0 (g := []) e1 a4 a5 (by decide), ph.1, ph.2.1, fun _ => .inr (.inr ?_), fun z => absurd (by decide) z⟩
        exact sOk_bad (List.getElem?_set_self (by omega)) rfl
      · have nk : kd ≠ 3 := fun z => no (decide_eq_true (by rw [z]; rfl))
        refine ⟨d1, d2, hs', ks', G', _, rfl, st, ph.1, ph.2.1, fun z => ph.2.2.1 (by simp at z ⊢; omega), fun z => ph.2.2.2 (fun y => z (by simp at y ⊢; omega))⟩
    clear st ph
    rintro σ' H10 ⟨d1, d2, hs', ks', G', v10, rfl, st, ph⟩
    -- a wrong word in a list
    refine ⟨(fun σ' H' => ∃ d1 d2 hs' ks' G' v10, σ' = [some (.ref a), some (.ref b), some (.int hs.length), some (.ref q), some (.ref lw), some (.ref d1), some (.ref d2), some (.int at0), some (.int kd), some (.int bad), v10, none, none, none, none, none, none] ∧ St14 Fr b c d1 d2 hs' ks' G' H' ∧ Phi kd [1, 0, 6] [4, 3, 2, 6, 7, 1] hs G hs' G'), ?_, ?_⟩
    · refine ⟨_, rfl, rfl, _, rfl, ite2 (fun y => ?_) (fun no => ?_)⟩
      · have k1 : kd = 4 := by have := V.int.inj (of_decide_eq_true y); omega
        subst k1
        have eG' : G' = G := ph.2.2.2 (by decide)
        rw [eG'] at st
        have lk : ks'.length = hs.length := (Paired.length st.d.r).trans eG
        obtain ⟨u, hu⟩ : ∃ u, ks'[at0]? = some u := ⟨_, List.getElem?_eq_getElem (by omega)⟩
        obtain ⟨g, hg, t, rfl, ht⟩ := L2.Paired.at st.d.r hu
        have gl := (gG g (List.mem_of_getElem? hg)).2.1
        have tb : t ≠ b := RowsL.noBoxAt st.d.r hu st.bx
        refine ⟨_, rfl, _, rfl, _, rfl, d2, _, _, _, rfl, rfl, SqL.of st.d.h2, atI_nat hu, t, _, rfl, .inl (SqL.of ht), _, _, rfl, rfl, b, c, _, rfl, st.bx, by rw [vI_len]; omega, by rw [vI_len]; omega, fun r HA hr hbA sA => ?_⟩
        have st := st.box hbA sA
        have ht : HA t = some (.lst (vI g)) := off_le _ _ (sA _ _ (by rw [off_ne tb]; exact ht))
        refine ⟨_, rfl, _, rfl, d2, _, _, _, rfl, rfl, SqL.of st.d.h2, atI_nat hu, _, rfl, _, rfl, t, _, rfl, SqL.of ht, fun p1 h1 => ?_⟩
        obtain ⟨ms1, em1, lm1⟩ := cut_vI g none (some (r : Int))
        rw [em1]
        have s1 := Same.new (o := .lst (vI ms1)) h1
        have st := st.same s1
        have ht := s1 _ _ ht
        have e1 : upd HA p1 (.lst (vI ms1)) p1 = some (.lst (vI ms1)) := upd_same
        generalize upd HA p1 (.lst (vI ms1)) = HB at st ht e1
        refine ⟨_, rfl, by show 1 ≤ sizeLine; decide, fun p2 h2 => ?_⟩
        have s2 := Same.new (o := .lst [V.int bad]) h2
        have st := st.same s2
        have ht := s2 _ _ ht
        have e1 := s2 _ _ e1
        have e2 : upd HB p2 (.lst [V.int bad]) p2 = some (.lst [V.int bad]) := upd_same
        generalize upd HB p2 (.lst [V.int bad]) = HC at st ht e1 e2
        refine ⟨p1, p2, _, _, rfl, rfl, e1, e2, by rw [vI_len]; show ms1.length + 1 ≤ sizeLine; exact Nat.le_trans (by omega : _ ≤ 100) (by decide), fun p3 h3 => ?_⟩
        rw [vI_add]
        have s3 := Same.new (o := .lst (vI (ms1 ++ [bad]))) h3
        have st := st.same s3
        have ht := s3 _ _ ht
        have e3 : upd HC p3 (.lst (vI (ms1 ++ [bad]))) p3 = some (.lst (vI (ms1 ++ [bad]))) := upd_same
        generalize upd HC p3 (.lst (vI (ms1 ++ [bad]))) = HD at st ht e3
        refine ⟨_, rfl, _, rfl, d2, _, _, _, rfl, rfl, SqL.of st.d.h2, atI_nat hu, _, rfl, _, rfl, t, _, rfl, SqL.of ht, fun p4 h4 => ?_⟩
        obtain ⟨ms2, em2, lm2⟩ := cut_vI g (some (r : Int)) none
        rw [em2]
        have s4 := Same.new (o := .lst (vI ms2)) h4
        have st := st.same s4
        have e3 := s4 _ _ e3
        have e4 : upd HD p4 (.lst (vI ms2)) p4 = some (.lst (vI ms2)) := upd_same
        generalize upd HD p4 (.lst (vI ms2)) = HE at st e3 e4
        have lr : (ms1 ++ [bad] ++ ms2).length ≤ 100 := by
          rw [List.length_append, List.length_append]
          show ms1.length + 1 + ms2.length ≤ 100
          omega
        refine ⟨p3, p4, _, _, rfl, rfl, e3, e4, by rw [vI_len, vI_len, ← List.length_append]; exact Nat.le_of_lt (lt100 lr), fun p5 h5 => ?_⟩
        rw [vI_app]
        obtain ⟨a1, a2, a3, a4, a5, a6⟩ := st.fresh h5
        have st := st.same (Same.new (o := .lst (vI (ms1 ++ [bad] ++ ms2))) h5)
        have e5 : upd HE p5 (.lst (vI (ms1 ++ [bad] ++ ms2))) p5 = some (.lst (vI (ms1 ++ [bad] ++ ms2))) := upd_same
        generalize upd HE p5 (.lst (vI (ms1 ++ [bad] ++ ms2))) = HF at st e5
        refine ⟨_, rfl, _, rfl, d2, _, _, at0, rfl, rfl, st.d.h2, ixN_at (by omega), ?_⟩
        refine ⟨d1, d2, hs', _, _, _, rfl, st.set2 at0 e5 a4 a5 lr, ph.1, ph.2.1, fun _ => .inr (.inr ?_), fun z => absurd (by decide) z⟩
        refine sOk_bad (List.getElem?_set_self (by omega)) ?_
        unfold gOk
        rw [all_bad (x := bad) (by simp) wbad, Bool.and_false]
      · have nk : kd ≠ 4 := fun z => no (decide_eq_true (by rw [z]; rfl))
        refine ⟨d1, d2, hs', ks', G', _, rfl, st, ph.1, ph.2.1, fun z => ph.2.2.1 (by simp at z ⊢; omega), fun z => ph.2.2.2 (fun y => z (by simp at y ⊢; omega))⟩
    clear st ph
    rintro σ' H10 ⟨d1, d2, hs', ks', G', v10, rfl, st, ph⟩
    -- a wrong known word
    refine ⟨_, rfl, lw, _, rfl, .inl (SqL.of (st.le _ _ lwF)), fun w1 hw1 => ?_⟩
    obtain ⟨a1, a2, a3, a4, a5, a6⟩ := st.fresh hw1
    have st := st.same (Same.new (o := .lst (vI ws)) hw1)
    have ew : upd H10 w1 (.lst (vI ws)) w1 = some (.lst (vI ws)) := upd_same
    generalize upd H10 w1 (.lst (vI ws)) = H11 at st ew
    refine ⟨(fun σ' H' => ∃ d1 d2 hs' ks' G' v10 w kn, σ' = [some (.ref a), some (.ref b), some (.int hs.length), some (.ref q), some (.ref lw), some (.ref d1), some (.ref d2), some (.int at0), some (.int kd), some (.int bad), v10, some (.ref w), none, none, none, none, none] ∧ St14 Fr b c d1 d2 hs' ks' G' H' ∧ Phi kd [1, 0, 6] [4, 3, 2, 6, 7, 1] hs G hs' G' ∧ H' w = some (.lst (vI kn)) ∧ kn.length ≤ 101 ∧ (5 ≤ kd → kn.all (isW hs.length) = false)), ?_, ?_⟩
    · refine ⟨_, rfl, _, _, rfl, rfl, _, rfl, ite2 (fun y => ?_) (fun no => ?_)⟩
      · have k5 : 5 ≤ kd := by have := of_decide_eq_true y; omega
        refine ⟨_, rfl, _, rfl, by show 1 ≤ sizeLine; decide, fun p1 h1 => ?_⟩
        have s1 := Same.new (o := .lst [V.int bad]) h1
        have st := st.same s1
        have ew := s1 _ _ ew
        have e1 : upd H11 p1 (.lst [V.int bad]) p1 = some (.lst [V.int bad]) := upd_same
        generalize upd H11 p1 (.lst [V.int bad]) = HA at st ew e1
        have lw2 : (vI ws).length + 1 ≤ sizeLine := by rw [vI_len]; exact Nat.le_trans (by omega : _ ≤ 101) (by decide)
        refine ⟨w1, p1, _, _, rfl, rfl, ew, e1, lw2, fun p2 h2 => ?_⟩
        rw [vI_add]
        have b2 := (st.fresh h2).2.1
        have s2 := Same.new (o := .lst (vI (ws ++ [bad]))) h2
        have st := st.same s2
        have ew := s2 _ _ ew
        have e2 : upd HA p2 (.lst (vI (ws ++ [bad]))) p2 = some (.lst (vI (ws ++ [bad]))) := upd_same
        generalize upd HA p2 (.lst (vI (ws ++ [bad]))) = HB at st ew e2
        refine ⟨_, rfl, by show 1 ≤ sizeLine; decide, fun p3 h3 => ?_⟩
        have s3 := Same.new (o := .lst [V.int bad]) h3
        have st := st.same s3
        have ew := s3 _ _ ew
        have e2 := s3 _ _ e2
        have e3 : upd HB p3 (.lst [V.int bad]) p3 = some (.lst [V.int bad]) := upd_same
        generalize upd HB p3 (.lst [V.int bad]) = HC at st ew e2 e3
        refine ⟨_, rfl, p3, w1, _, _, rfl, rfl, e3, ew, by rw [Nat.add_comm]; exact lw2, fun p4 h4 => ?_⟩
        rw [show [V.int bad] ++ vI ws = vI ([bad] ++ ws) from vI_app [bad] ws]
        have b4 := (st.fresh h4).2.1
        have s4 := Same.new (o := .lst (vI ([bad] ++ ws))) h4
        have st := st.same s4
        have e2 := s4 _ _ e2
        have e4 : upd HC p4 (.lst (vI ([bad] ++ ws))) p4 = some (.lst (vI ([bad] ++ ws))) := upd_same
        generalize upd HC p4 (.lst (vI ([bad] ++ ws))) = HD at st e2 e4
        refine ⟨by show 2 ≤ sizeLine; decide, fun p5 h5 => ?_⟩
        have b5 := (st.fresh h5).2.1
        have s5 := Same.new (o := .lst [.ref p2, .ref p4]) h5
        have st := st.same s5
        have e2 := s5 _ _ e2
        have e4 := s5 _ _ e4
        have e5 : upd HD p5 (.lst [.ref p2, .ref p4]) p5 = some (.lst [.ref p2, .ref p4]) := upd_same
        generalize upd HD p5 (.lst [.ref p2, .ref p4]) = HE at st e2 e4 e5
        refine ⟨_, rfl, b, c, 2, rfl, st.bx, by decide, by decide, fun r HF hr hbF sF => ?_⟩
        have st := st.box hbF sF
        have off5 : ∀ {z : Addr} {o : HO}, z ≠ b → HE z = some o → HF z = some o := fun {z o} n e => off_le _ _ (sF _ _ (by rw [off_ne n]; exact e))
        have e2 := off5 b2 e2
        have e4 := off5 b4 e4
        have e5 := off5 b5 e5
        obtain ⟨p', kn, hp', hpe, kl', kb⟩ : ∃ (p' : Addr) (kn : List Int), ([V.ref p2, V.ref p4] : List V)[r]? = some (V.ref p') ∧ HF p' = some (.lst (vI kn)) ∧ kn.length ≤ 101 ∧ kn.all (isW hs.length) = false := by
          have hr3 : r < 2 := by omega
          match r, hr3 with
          | 0, _ => exact ⟨p2, _, rfl, e2, by rw [List.length_append]; show ws.length + 1 ≤ 101; omega, all_bad (x := bad) (by simp) wbad⟩
          | 1, _ => exact ⟨p4, _, rfl, e4, by rw [List.length_append]; show 1 + ws.length ≤ 101; omega, all_bad (x := bad) (by simp) wbad⟩
        exact ⟨p5, _, r, _, rfl, rfl, SqL.of e5, atI_nat hp', d1, d2, hs', ks', G', v10, p', kn, rfl, st, ph, hpe, kl', fun _ => kb⟩
      · have nk : ¬ 5 ≤ kd := fun z => no (decide_eq_true (by omega))
        exact ⟨d1, d2, hs', ks', G', v10, w1, ws, rfl, st, ph, ew, by omega, fun z => absurd z nk⟩
    clear st ph ew a1 a2 a3 a4 a5 a6
    rintro σ' H12 ⟨d1, d2, hs', ks', G', v10, w1, kn, rfl, st, ph, ew, kl', kb⟩
    refine ⟨by show 8 ≤ sizeLine; decide, fun p hp => ⟨_, rfl, p, _, kd, _, rfl, rfl, SqL.of upd_same, atI_nat (dueAt kd kl), ?_⟩⟩
    have sp := Same.new (H := H12) (o := .lst [V.str "hears", V.str "hears", V.str "says", V.str "says", V.str "says", V.str "knows", V.str "hears", V.str "says"]) hp
    have st := st.same sp
    have ew := sp _ _ ew
    generalize upd H12 p (.lst [V.str "hears", V.str "hears", V.str "says", V.str "says", V.str "says", V.str "knows", V.str "hears", V.str "says"]) = H13 at st ew
    have ds := st.d
    have dg : Desc H13 l1 l2 hs ls G := ⟨st.le _ _ hl1, st.le _ _ hl2, RowsL.same st.le hG, by omega, by omega, fun g hg => Nat.le_trans (gG g hg).2.1 (by decide)⟩
    have hq13 := st.le _ _ hq
    have hl13 := st.le _ _ lwF
    clear st sp
    -- each class is asked
    refine ⟨4, rfl, by decide, by decide, ?_⟩
    refine for_range (lo := 0) (n := 4) (fun i σ H' => (∃ v13 v14, σ = [some (.ref a), some (.ref b), some (.int hs.length), some (.ref q), some (.ref lw), some (.ref d1), some (.ref d2), some (.int at0), some (.int kd), some (.int bad), v10, some (.ref w1), some (.str (dueS kd)), v13, v14, none, none]) ∧ Same H13 H') ⟨⟨_, _, rfl⟩, Same.refl H13⟩ ?_ ?_
    · rintro i σ H' hi ⟨⟨v13, v14, rfl⟩, s'⟩
      have e0 : (0 : Int) + (i : Int) = (i : Int) := Int.zero_add _
      rw [e0]
      refine ⟨_, rfl, by show 2 ≤ sizeLine; decide, fun w2 hw2 => ?_⟩
      have s2 := s'.trans (Same.new (o := .lst [.str (dueS kd), .bl true]) hw2)
      have e2 : upd H' w2 (.lst [.str (dueS kd), .bl true]) w2 = some (.lst [.str (dueS kd), .bl true]) := upd_same
      generalize upd H' w2 (.lst [.str (dueS kd), .bl true]) = H14 at s2 e2
      refine ⟨fun σ' H'' => ∃ w, σ' = [some (.ref a), some (.ref b), some (.int hs.length), some (.ref q), some (.ref lw), some (.ref d1), some (.ref d2), some (.int at0), some (.int kd), some (.int bad), v10, some (.ref w1), some (.str (dueS kd)), some (.int i), some (.ref w), none, none] ∧ Same H13 H'' ∧ H'' w = some (.lst (wanted kd i)), ?_, ?_⟩
      · refine ⟨_, rfl, rfl, _, rfl, ?_⟩
        by_cases k5 : kd = 5
        · rw [decide_eq_true (by rw [k5]; rfl)]
          refine iteT ⟨_, rfl, _, _, rfl, rfl, _, rfl, ite2 (fun y => ?_) (fun no => ?_)⟩
          · have il : i < 2 := by have := of_decide_eq_true y; omega
            refine ⟨Nat.zero_le _, fun w3 hw3 => ⟨w3, rfl, s2.trans (Same.new hw3), ?_⟩⟩
            rw [upd_same]
            unfold wanted
            rw [if_pos ⟨k5, il⟩]
          · refine ⟨w2, rfl, s2, ?_⟩
            unfold wanted
            rw [if_neg (fun z => no (decide_eq_true (by omega)))]
            exact e2
        · rw [decide_eq_false (fun z => k5 (by have := V.int.inj z; omega))]
          refine iteF (iteF ⟨w2, rfl, s2, ?_⟩)
          unfold wanted
          rw [if_neg (fun z => k5 z.1)]
          exact e2
      clear s2 e2
      rintro σ' H14 ⟨w, rfl, s2, ew2⟩
      refine ⟨_, rfl, _, rfl, _, rfl, _, rfl, i, d1, d2, w1, hs', ks', G', kn, rfl, hi, ds.same s2, s2 _ _ ew, kl', fun H15 q1 s3 q0 hq1 => ?_⟩
      rw [verd_due kl ph good goods kb] at hq1
      refine ⟨_, rfl, neF hq1 (s3 _ _ ew2) (flat_want kd i) (iteF ?_)⟩
      have s23 := s2.trans s3
      refine ⟨_, rfl, _, rfl, q, _, _, _, rfl, rfl, SqL.of (s23 _ _ hq13), at_of (j := 0) rfl rfl, _, rfl, q, _, _, _, rfl, rfl, SqL.of (s23 _ _ hq13), at_of (j := 1) rfl rfl, _, rfl, i, l1, l2, lw, hs, ls, G, ws, rfl, hi, dg.same s23, s23 _ _ hl13, by omega, fun H16 q2 s4 q0 hq2 => ?_⟩
      rw [verd_good good goods wall] at hq2
      exact ⟨Nat.zero_le _, fun q3 hq3 => neF ((Same.new hq3) _ _ hq2) upd_same rfl (iteF ⟨⟨_, _, rfl⟩, (s23.trans s4).trans (Same.new hq3)⟩)⟩
    · rintro σ H' ⟨⟨v13, v14, rfl⟩, s'⟩
      exact k _
end
end Toy
namespace Toy
open PySem PySem.Spec PyProof.Rows L2
/-! ### What the top has written, the head -/
theorem all_mk {l : PySem.W.OpenLaw} {w : World} {K : PySem.W.Frag} {h : Heap} {mg : Str → Option Value} {fa C : Addr} {tM : Tok} (X : K.In h) (G : h.Ns mainGlobals mg) (hfa : mg "law" = some (.ref fa))
    {f1 : Addr} {od1 an1 : Option Addr} {sl1 : Array (Option Value)} {oc1 kV1 dc1 pm1 cd1 ct1 : Value}
    {f2 : Addr} {od2 an2 : Option Addr} {sl2 : Array (Option Value)} {oc2 kV2 dc2 pm2 cd2 ct2 : Value}
    {f3 : Addr} {od3 an3 : Option Addr} {sl3 : Array (Option Value)} {oc3 kV3 dc3 pm3 cd3 ct3 : Value}
    {f4 : Addr} {od4 an4 : Option Addr} {sl4 : Array (Option Value)} {oc4 kV4 dc4 pm4 cd4 ct4 : Value}
    {f5 : Addr} {od5 an5 : Option Addr} {sl5 : Array (Option Value)} {oc5 kV5 dc5 pm5 cd5 ct5 : Value}
    {f6 : Addr} {od6 an6 : Option Addr} {sl6 : Array (Option Value)} {oc6 kV6 dc6 pm6 cd6 ct6 : Value}
    {f7 : Addr} {od7 an7 : Option Addr} {sl7 : Array (Option Value)} {oc7 kV7 dc7 pm7 cd7 ct7 : Value}
    {f8 : Addr} {od8 an8 : Option Addr} {sl8 : Array (Option Value)} {oc8 kV8 dc8 pm8 cd8 ct8 : Value}
    {f9 : Addr} {od9 an9 : Option Addr} {sl9 : Array (Option Value)} {oc9 kV9 dc9 pm9 cd9 ct9 : Value}
    {f10 : Addr} {od10 an10 : Option Addr} {sl10 : Array (Option Value)} {oc10 kV10 dc10 pm10 cd10 ct10 : Value}
    {f11 : Addr} {od11 an11 : Option Addr} {sl11 : Array (Option Value)} {oc11 kV11 dc11 pm11 cd11 ct11 : Value}
    {f12 : Addr} {od12 an12 : Option Addr} {sl12 : Array (Option Value)} {oc12 kV12 dc12 pm12 cd12 ct12 : Value}
    {f13 : Addr} {od13 an13 : Option Addr} {sl13 : Array (Option Value)} {oc13 kV13 dc13 pm13 cd13 ct13 : Value}
    {f14 : Addr} {od14 an14 : Option Addr} {sl14 : Array (Option Value)} {oc14 kV14 dc14 pm14 cd14 ct14 : Value}
    {f15 : Addr} {od15 an15 : Option Addr} {sl15 : Array (Option Value)} {oc15 kV15 dc15 pm15 cd15 ct15 : Value}
    {f16 : Addr} {od16 an16 : Option Addr} {sl16 : Array (Option Value)} {oc16 kV16 dc16 pm16 cd16 ct16 : Value}
    {eM e0 e1 e2 e3 e4 e5 e6 e7 e8 e9 e10 e11 e12 e13 e14 e15 e16 e17 e18 : Addr}
    {nm5 q5 : Str} {N5 : Addr} {bs5 bm5 su5 : List Value} {sn5 : List Str} {ab5 : Bool} {co5 : Option Bool} {dd5 : Option Addr} {x5 y5 u5 v5 w5 : Option Value}
    {fi5 ca5 cc5 : Addr} {eo5 eV5 ed5 ep5 et5 ek5 el5 : Value} {ey5 ez5 ew5 eu5 : Option Addr} {es5 er5 eq5 : Array (Option Value)} {ev5 : Array Value} {ef5 : Str} {eg5 : Tok}
    {Cp Ck Cd Cb : Addr}
    {fi101 ca101 cc101 : Addr} {eo101 eV101 ed101 ep101 et101 ek101 el101 : Value} {ey101 ez101 ew101 eu101 : Option Addr} {es101 er101 eq101 : Array (Option Value)} {ev101 : Array Value} {ef101 : Str} {eg101 : Tok}
    (aC : PySem.W.nsIn K mainGlobals "Table" = some (some (.ref C)))
    (a1 : PySem.W.nsIn K mainGlobals "is_word" = some (some (.ref f1)))
    (l1 : K.lookup f1 = some ⟨oc1, od1, .func (PySem.W.fnOf "is_word" "is_word" (defArgs sIsWord) (defBody sIsWord) (defScope sIsWord) .none kV1 dc1 pm1 an1 cd1 ct1), sl1⟩)
    (c1 : PySem.W.codeIn K cd1 "is_word" = true)
    (k1 : PySem.W.keepIn K (.ref f1) = true)
    (a2 : PySem.W.nsIn K mainGlobals "all_words" = some (some (.ref f2)))
    (l2 : K.lookup f2 = some ⟨oc2, od2, .func (PySem.W.fnOf "all_words" "all_words" (defArgs sAllWords) (defBody sAllWords) (defScope sAllWords) .none kV2 dc2 pm2 an2 cd2 ct2), sl2⟩)
    (c2 : PySem.W.codeIn K cd2 "all_words" = true)
    (k2 : PySem.W.keepIn K (.ref f2) = true)
    (a3 : PySem.W.nsIn K mainGlobals "is_size" = some (some (.ref f3)))
    (l3 : K.lookup f3 = some ⟨oc3, od3, .func (PySem.W.fnOf "is_size" "is_size" (defArgs sIsSize) (defBody sIsSize) (defScope sIsSize) .none kV3 dc3 pm3 an3 cd3 ct3), sl3⟩)
    (c3 : PySem.W.codeIn K cd3 "is_size" = true)
    (k3 : PySem.W.keepIn K (.ref f3) = true)
    (a4 : PySem.W.nsIn K mainGlobals "check_size" = some (some (.ref f4)))
    (l4 : K.lookup f4 = some ⟨oc4, od4, .func (PySem.W.fnOf "check_size" "check_size" (defArgs sCheckSize) (defBody sCheckSize) (defScope sCheckSize) .none kV4 dc4 pm4 an4 cd4 ct4), sl4⟩)
    (c4 : PySem.W.codeIn K cd4 "check_size" = true)
    (k4 : PySem.W.keepIn K (.ref f4) = true)
    (a5 : PySem.W.nsIn K mainGlobals "check_word" = some (some (.ref f5)))
    (l5 : K.lookup f5 = some ⟨oc5, od5, .func (PySem.W.fnOf "check_word" "check_word" (defArgs sCheckWord) (defBody sCheckWord) (defScope sCheckWord) .none kV5 dc5 pm5 an5 cd5 ct5), sl5⟩)
    (c5 : PySem.W.codeIn K cd5 "check_word" = true)
    (k5 : PySem.W.keepIn K (.ref f5) = true)
    (a6 : PySem.W.nsIn K mainGlobals "ascending" = some (some (.ref f6)))
    (l6 : K.lookup f6 = some ⟨oc6, od6, .func (PySem.W.fnOf "ascending" "ascending" (defArgs sAsc) (defBody sAsc) (defScope sAsc) .none kV6 dc6 pm6 an6 cd6 ct6), sl6⟩)
    (c6 : PySem.W.codeIn K cd6 "ascending" = true)
    (k6 : PySem.W.keepIn K (.ref f6) = true)
    (a7 : PySem.W.nsIn K mainGlobals "_law_box" = some (some (.ref f7)))
    (l7 : K.lookup f7 = some ⟨oc7, od7, .func (PySem.W.fnOf "_law_box" "_law_box" (defArgs sBox) (defBody sBox) (defScope sBox) .none kV7 dc7 pm7 an7 cd7 ct7), sl7⟩)
    (c7 : PySem.W.codeIn K cd7 "_law_box" = true)
    (k7 : PySem.W.keepIn K (.ref f7) = true)
    (a8 : PySem.W.nsIn K mainGlobals "_law_take" = some (some (.ref f8)))
    (l8 : K.lookup f8 = some ⟨oc8, od8, .func (PySem.W.fnOf "_law_take" "_law_take" (defArgs sTake) (defBody sTake) (defScope sTake) .none kV8 dc8 pm8 an8 cd8 ct8), sl8⟩)
    (c8 : PySem.W.codeIn K cd8 "_law_take" = true)
    (k8 : PySem.W.keepIn K (.ref f8) = true)
    (a9 : PySem.W.nsIn K mainGlobals "_law_words" = some (some (.ref f9)))
    (l9 : K.lookup f9 = some ⟨oc9, od9, .func (PySem.W.fnOf "_law_words" "_law_words" (defArgs sWords) (defBody sWords) (defScope sWords) .none kV9 dc9 pm9 an9 cd9 ct9), sl9⟩)
    (c9 : PySem.W.codeIn K cd9 "_law_words" = true)
    (k9 : PySem.W.keepIn K (.ref f9) = true)
    (a10 : PySem.W.nsIn K mainGlobals "_law_single" = some (some (.ref f10)))
    (l10 : K.lookup f10 = some ⟨oc10, od10, .func (PySem.W.fnOf "_law_single" "_law_single" (defArgs sSingle) (defBody sSingle) (defScope sSingle) .none kV10 dc10 pm10 an10 cd10 ct10), sl10⟩)
    (c10 : PySem.W.codeIn K cd10 "_law_single" = true)
    (k10 : PySem.W.keepIn K (.ref f10) = true)
    (a11 : PySem.W.nsIn K mainGlobals "_law_far" = some (some (.ref f11)))
    (l11 : K.lookup f11 = some ⟨oc11, od11, .func (PySem.W.fnOf "_law_far" "_law_far" (defArgs sFar) (defBody sFar) (defScope sFar) .none kV11 dc11 pm11 an11 cd11 ct11), sl11⟩)
    (c11 : PySem.W.codeIn K cd11 "_law_far" = true)
    (k11 : PySem.W.keepIn K (.ref f11) = true)
    (i12 : PySem.W.isFn K (.ref f12) = true)
    (n12 : PySem.W.fnIn K f12 = true)
    (y12 : PySem.W.typeIn K (.ref f12) = some (.type "function"))
    (l12 : K.lookup f12 = some ⟨oc12, od12, .func (PySem.W.fnOf "__init__" "Person.__init__" (defArgs sPInit) (defBody sPInit) (defScope sPInit) .none kV12 dc12 pm12 an12 cd12 ct12), sl12⟩)
    (c12 : PySem.W.codeIn K cd12 "Person.__init__" = true)
    (k12 : PySem.W.keepIn K (.ref f12) = true)
    (a13 : PySem.W.nsIn K mainGlobals "_law_outs" = some (some (.ref f13)))
    (l13 : K.lookup f13 = some ⟨oc13, od13, .func (PySem.W.fnOf "_law_outs" "_law_outs" (defArgs sOuts) (defBody sOuts) (defScope sOuts) .none kV13 dc13 pm13 an13 cd13 ct13), sl13⟩)
    (c13 : PySem.W.codeIn K cd13 "_law_outs" = true)
    (k13 : PySem.W.keepIn K (.ref f13) = true)
    (a14 : PySem.W.nsIn K mainGlobals "_law_person" = some (some (.ref f14)))
    (l14 : K.lookup f14 = some ⟨oc14, od14, .func (PySem.W.fnOf "_law_person" "_law_person" (defArgs sPersonL) (defBody sPersonL) (defScope sPersonL) .none kV14 dc14 pm14 an14 cd14 ct14), sl14⟩)
    (c14 : PySem.W.codeIn K cd14 "_law_person" = true)
    (k14 : PySem.W.keepIn K (.ref f14) = true)
    (a15 : PySem.W.nsIn K mainGlobals "_law_person_error" = some (some (.ref f15)))
    (l15 : K.lookup f15 = some ⟨oc15, od15, .func (PySem.W.fnOf "_law_person_error" "_law_person_error" (defArgs sPErr) (defBody sPErr) (defScope sPErr) .none kV15 dc15 pm15 an15 cd15 ct15), sl15⟩)
    (c15 : PySem.W.codeIn K cd15 "_law_person_error" = true)
    (k15 : PySem.W.keepIn K (.ref f15) = true)
    (a16 : PySem.W.nsIn K mainGlobals "law" = some (some (.ref f16)))
    (l16 : K.lookup f16 = some ⟨oc16, od16, .func (PySem.W.fnOf "law" "law" (defArgs sLaw) (defBody sLaw) (defScope sLaw) .none kV16 dc16 pm16 an16 cd16 ct16), sl16⟩)
    (c16 : PySem.W.codeIn K cd16 "law" = true)
    (k16 : PySem.W.keepIn K (.ref f16) = true)
    (pg : PySem.W.plainGet K C Str.empty = true)
    (hd : PySem.W.hasDictIn K C = true)
    (po : PySem.W.plainOver K C = true)
    (sa : PySem.W.findIn K (.ref C) "__setattr__" = some (some (.builtin "object.__setattr__")))
    (mk : PySem.W.makesIn K C = true)
    (kc : PySem.W.keepIn K (.ref C) = true)
    (nS : PySem.W.findIn K (.ref C) "size" = some none)
    (nR : PySem.W.findIn K (.ref C) "_rows" = some none)
    (nP : PySem.W.findIn K (.ref C) "_pairs" = some none)
    (rd : PySem.W.readsIn K C (.type "type") = true)
    (rg : PySem.W.specialIn K (.ref C) "__getattribute__" = some (some (.builtin "type.__getattribute__")))
    (ms : PySem.W.findCls K (.ref C) (.type "type") "MOST" = some (.val (.int 6 tM)))
    (ia : PySem.W.findIn K (.ref C) "__class__" = some (some (.builtin "object.__class__")))
    (ic : PySem.W.specialIn K (.builtin "object.__class__") "__get__" = some (some (.builtin "getset_descriptor.__get__")))
    (it : PySem.W.takesIn K (.builtin "object.__class__") = some true)
    (im : PySem.W.mroIn K C (.type "object") = some true)
    (sf : PySem.W.selfFirst K C = true)
    (nf : PySem.W.notFirst K C (.ref C) = true)
    (z_len : PySem.W.nsIn K mainGlobals "len" = some none)
    (z_range : PySem.W.nsIn K mainGlobals "range" = some none)
    (z_all : PySem.W.nsIn K mainGlobals "all" = some none)
    (z_list : PySem.W.nsIn K mainGlobals "list" = some none)
    (z_tuple : PySem.W.nsIn K mainGlobals "tuple" = some none)
    (z_enumerate : PySem.W.nsIn K mainGlobals "enumerate" = some none)
    (z_isinstance : PySem.W.nsIn K mainGlobals "isinstance" = some none)
    (z_int : PySem.W.nsIn K mainGlobals "int" = some none)
    (z_bool : PySem.W.nsIn K mainGlobals "bool" = some none)
    (z_str : PySem.W.nsIn K mainGlobals "str" = some none)
    (z_abs : PySem.W.nsIn K mainGlobals "abs" = some none)
    (z_ValueError : PySem.W.nsIn K mainGlobals "ValueError" = some none)
    (z_super : PySem.W.nsIn K mainGlobals "super" = some none)
    (gM : PySem.W.nsIn K mainGlobals "MurmurError" = some (some (.ref eM)))
    (bM : PySem.W.isClsIn K eM = true)
    (tM_ : PySem.W.typeIn K (.ref eM) = some (.type "type"))
    (g0_ : PySem.W.nsIn K mainGlobals "BadSize" = some (some (.ref e0)))
    (b0_ : PySem.W.isClsIn K e0 = true)
    (t0_ : PySem.W.typeIn K (.ref e0) = some (.type "type"))
    (g1_ : PySem.W.nsIn K mainGlobals "BadTable" = some (some (.ref e1)))
    (b1_ : PySem.W.isClsIn K e1 = true)
    (t1_ : PySem.W.typeIn K (.ref e1) = some (.type "type"))
    (g2_ : PySem.W.nsIn K mainGlobals "UnknownWord" = some (some (.ref e2)))
    (b2_ : PySem.W.isClsIn K e2 = true)
    (t2_ : PySem.W.typeIn K (.ref e2) = some (.type "type"))
    (g3_ : PySem.W.nsIn K mainGlobals "SizeMismatch" = some (some (.ref e3)))
    (b3_ : PySem.W.isClsIn K e3 = true)
    (t3_ : PySem.W.typeIn K (.ref e3) = some (.type "type"))
    (g4_ : PySem.W.nsIn K mainGlobals "BadCount" = some (some (.ref e4)))
    (b4_ : PySem.W.isClsIn K e4 = true)
    (t4_ : PySem.W.typeIn K (.ref e4) = some (.type "type"))
    (g5_ : PySem.W.nsIn K mainGlobals "BadPerson" = some (some (.ref e5)))
    (b5_ : PySem.W.isClsIn K e5 = true)
    (t5_ : PySem.W.typeIn K (.ref e5) = some (.type "type"))
    (g6_ : PySem.W.nsIn K mainGlobals "BadLetter" = some (some (.ref e6)))
    (b6_ : PySem.W.isClsIn K e6 = true)
    (t6_ : PySem.W.typeIn K (.ref e6) = some (.type "type"))
    (g7_ : PySem.W.nsIn K mainGlobals "UnknownPerson" = some (some (.ref e7)))
    (b7_ : PySem.W.isClsIn K e7 = true)
    (t7_ : PySem.W.typeIn K (.ref e7) = some (.type "type"))
    (g8_ : PySem.W.nsIn K mainGlobals "TooMany" = some (some (.ref e8)))
    (b8_ : PySem.W.isClsIn K e8 = true)
    (t8_ : PySem.W.typeIn K (.ref e8) = some (.type "type"))
    (g9_ : PySem.W.nsIn K mainGlobals "BadPattern" = some (some (.ref e9)))
    (b9_ : PySem.W.isClsIn K e9 = true)
    (t9_ : PySem.W.typeIn K (.ref e9) = some (.type "type"))
    (g10_ : PySem.W.nsIn K mainGlobals "SameWord" = some (some (.ref e10)))
    (b10_ : PySem.W.isClsIn K e10 = true)
    (t10_ : PySem.W.typeIn K (.ref e10) = some (.type "type"))
    (g11_ : PySem.W.nsIn K mainGlobals "UnknownClue" = some (some (.ref e11)))
    (b11_ : PySem.W.isClsIn K e11 = true)
    (t11_ : PySem.W.typeIn K (.ref e11) = some (.type "type"))
    (g12_ : PySem.W.nsIn K mainGlobals "BadPlace" = some (some (.ref e12)))
    (b12_ : PySem.W.isClsIn K e12 = true)
    (t12_ : PySem.W.typeIn K (.ref e12) = some (.type "type"))
    (g13_ : PySem.W.nsIn K mainGlobals "TooLong" = some (some (.ref e13)))
    (b13_ : PySem.W.isClsIn K e13 = true)
    (t13_ : PySem.W.typeIn K (.ref e13) = some (.type "type"))
    (g14_ : PySem.W.nsIn K mainGlobals "Melted" = some (some (.ref e14)))
    (b14_ : PySem.W.isClsIn K e14 = true)
    (t14_ : PySem.W.typeIn K (.ref e14) = some (.type "type"))
    (g15_ : PySem.W.nsIn K mainGlobals "NothingToUndo" = some (some (.ref e15)))
    (b15_ : PySem.W.isClsIn K e15 = true)
    (t15_ : PySem.W.typeIn K (.ref e15) = some (.type "type"))
    (g16_ : PySem.W.nsIn K mainGlobals "NothingToRedo" = some (some (.ref e16)))
    (b16_ : PySem.W.isClsIn K e16 = true)
    (t16_ : PySem.W.typeIn K (.ref e16) = some (.type "type"))
    (g17_ : PySem.W.nsIn K mainGlobals "Refused" = some (some (.ref e17)))
    (b17_ : PySem.W.isClsIn K e17 = true)
    (t17_ : PySem.W.typeIn K (.ref e17) = some (.type "type"))
    (g18_ : PySem.W.nsIn K mainGlobals "BadLine" = some (some (.ref e18)))
    (b18_ : PySem.W.isClsIn K e18 = true)
    (t18_ : PySem.W.typeIn K (.ref e18) = some (.type "type"))
    (stn : PySem.W.nsIn K cStatics "thirdparty.any" = some none)
    (top_ : (l.prog.main.scope.names.lookup ("super" : Str)).isSome = false)
    (lC5 : K.lookup e5 = some (excClassObj nm5 q5 e5 N5 bs5 bm5 true sn5 su5 ab5 co5 dd5 x5 y5 u5 v5 w5 "ValueError.__new__"))
    (rV5 : PySem.HandSPX.refsVE bm5 = true)
    (sa5 : PySem.W.findIn K (.ref e5) "__setattr__" = some (some (.builtin "object.__setattr__")))
    (ex5 : PySem.W.subIn K (.ref e5) (.type "BaseException") = some true)
    (kC5 : PySem.W.keepIn K (.ref e5) = true)
    (se5 : PySem.W.mroIn K e5 (.ref e5) = some true)
    (vE5 : PySem.W.subIn K (.ref e5) (.type "ValueError") = some true)
    (al5 : PySem.W.ks_superIn K e5 e5 "__init__" = some (some (.builtin "ValueError.__init__")))
    (iI5 : PySem.W.findIn K (.ref e5) "__init__" = some (some (.ref fi5)))
    (tI5 : PySem.W.typeIn K (.ref fi5) = some (.type "function"))
    (lk5 : K.lookup fi5 = some ⟨eo5, ey5, .func (PySem.W.ksFn "__init__" "BadPerson.__init__" (defArgs sBadPersonI) (defBody sBadPersonI) (defScope sBadPersonI) .none eV5 ed5 ep5 ez5 (.ref ca5) et5 cc5), es5⟩)
    (cd5_ : PySem.W.codeIn K (.ref ca5) "BadPerson.__init__" = true)
    (lc5 : K.lookup ca5 = some ⟨ek5, ew5, .fields ev5, er5⟩)
    (vs5 : ev5[2]? = some (.str ef5 eg5))
    (fl5 : ((l.prog.main.file : Str) == ef5) = true)
    (ce5 : K.lookup cc5 = some ⟨el5, eu5, .cell (some (.ref e5)), eq5⟩)
    (no5_0 : PySem.W.findIn K (.ref e5) "part" = some none)
    (xg5 : PySem.W.findIn K (.ref e5) "__getattribute__" = some (some (.builtin "BaseException.__getattribute__")))
    (xk5 : PySem.W.findIn K (.ref e5) "__getattr__" = some none)
    (xd5 : PySem.W.hasDictIn K e5 = true)
    (xa5 : PySem.W.findIn K (.ref e5) "__class__" = some (some (.builtin "object.__class__")))
    (xm5 : PySem.W.mroIn K e5 (.type "object") = some true)
    (sM5 : PySem.W.subIn K (.ref e5) (.ref eM) = some true)
    (s5_0 : PySem.W.subIn K (.ref e5) (.ref e0) = some false)
    (s5_1 : PySem.W.subIn K (.ref e5) (.ref e1) = some false)
    (s5_2 : PySem.W.subIn K (.ref e5) (.ref e2) = some false)
    (s5_3 : PySem.W.subIn K (.ref e5) (.ref e3) = some false)
    (s5_4 : PySem.W.subIn K (.ref e5) (.ref e4) = some false)
    (s5_5 : PySem.W.subIn K (.ref e5) (.ref e5) = some true)
    (s5_6 : PySem.W.subIn K (.ref e5) (.ref e6) = some false)
    (s5_7 : PySem.W.subIn K (.ref e5) (.ref e7) = some false)
    (s5_8 : PySem.W.subIn K (.ref e5) (.ref e8) = some false)
    (s5_9 : PySem.W.subIn K (.ref e5) (.ref e9) = some false)
    (s5_10 : PySem.W.subIn K (.ref e5) (.ref e10) = some false)
    (s5_11 : PySem.W.subIn K (.ref e5) (.ref e11) = some false)
    (s5_12 : PySem.W.subIn K (.ref e5) (.ref e12) = some false)
    (s5_13 : PySem.W.subIn K (.ref e5) (.ref e13) = some false)
    (s5_14 : PySem.W.subIn K (.ref e5) (.ref e14) = some false)
    (s5_15 : PySem.W.subIn K (.ref e5) (.ref e15) = some false)
    (s5_16 : PySem.W.subIn K (.ref e5) (.ref e16) = some false)
    (s5_17 : PySem.W.subIn K (.ref e5) (.ref e17) = some false)
    (s5_18 : PySem.W.subIn K (.ref e5) (.ref e18) = some false)
    (aX_Cp : PySem.W.nsIn K mainGlobals "Person" = some (some (.ref Cp)))
    (bX_Cp : PySem.W.isClsIn K Cp = true)
    (tX_Cp : PySem.W.typeIn K (.ref Cp) = some (.type "type"))
    (pgX_Cp : PySem.W.plainGet K Cp Str.empty = true)
    (hdX_Cp : PySem.W.hasDictIn K Cp = true)
    (poX_Cp : PySem.W.plainOver K Cp = true)
    (saX_Cp : PySem.W.findIn K (.ref Cp) "__setattr__" = some (some (.builtin "object.__setattr__")))
    (mkX_Cp : PySem.W.makesIn K Cp = true)
    (kcX_Cp : PySem.W.keepIn K (.ref Cp) = true)
    (iaX_Cp : PySem.W.findIn K (.ref Cp) "__class__" = some (some (.builtin "object.__class__")))
    (imX_Cp : PySem.W.mroIn K Cp (.type "object") = some true)
    (seX_Cp : PySem.W.subIn K (.ref Cp) (.ref Cp) = some true)
    (nsizeX_Cp : PySem.W.findIn K (.ref Cp) "size" = some none)
    (n_hearsX_Cp : PySem.W.findIn K (.ref Cp) "_hears" = some none)
    (n_saysX_Cp : PySem.W.findIn K (.ref Cp) "_says" = some none)
    (aX_Ck : PySem.W.nsIn K mainGlobals "Knower" = some (some (.ref Ck)))
    (bX_Ck : PySem.W.isClsIn K Ck = true)
    (tX_Ck : PySem.W.typeIn K (.ref Ck) = some (.type "type"))
    (pgX_Ck : PySem.W.plainGet K Ck Str.empty = true)
    (hdX_Ck : PySem.W.hasDictIn K Ck = true)
    (poX_Ck : PySem.W.plainOver K Ck = true)
    (saX_Ck : PySem.W.findIn K (.ref Ck) "__setattr__" = some (some (.builtin "object.__setattr__")))
    (mkX_Ck : PySem.W.makesIn K Ck = true)
    (kcX_Ck : PySem.W.keepIn K (.ref Ck) = true)
    (iaX_Ck : PySem.W.findIn K (.ref Ck) "__class__" = some (some (.builtin "object.__class__")))
    (imX_Ck : PySem.W.mroIn K Ck (.type "object") = some true)
    (seX_Ck : PySem.W.subIn K (.ref Ck) (.ref Ck) = some true)
    (nsizeX_Ck : PySem.W.findIn K (.ref Ck) "size" = some none)
    (n_hearsX_Ck : PySem.W.findIn K (.ref Ck) "_hears" = some none)
    (n_saysX_Ck : PySem.W.findIn K (.ref Ck) "_says" = some none)
    (n_knownX_Ck : PySem.W.findIn K (.ref Ck) "_known" = some none)
    (aX_Cd : PySem.W.nsIn K mainGlobals "Doubter" = some (some (.ref Cd)))
    (bX_Cd : PySem.W.isClsIn K Cd = true)
    (tX_Cd : PySem.W.typeIn K (.ref Cd) = some (.type "type"))
    (pgX_Cd : PySem.W.plainGet K Cd Str.empty = true)
    (hdX_Cd : PySem.W.hasDictIn K Cd = true)
    (poX_Cd : PySem.W.plainOver K Cd = true)
    (saX_Cd : PySem.W.findIn K (.ref Cd) "__setattr__" = some (some (.builtin "object.__setattr__")))
    (mkX_Cd : PySem.W.makesIn K Cd = true)
    (kcX_Cd : PySem.W.keepIn K (.ref Cd) = true)
    (iaX_Cd : PySem.W.findIn K (.ref Cd) "__class__" = some (some (.builtin "object.__class__")))
    (imX_Cd : PySem.W.mroIn K Cd (.type "object") = some true)
    (seX_Cd : PySem.W.subIn K (.ref Cd) (.ref Cd) = some true)
    (nsizeX_Cd : PySem.W.findIn K (.ref Cd) "size" = some none)
    (n_hearsX_Cd : PySem.W.findIn K (.ref Cd) "_hears" = some none)
    (n_saysX_Cd : PySem.W.findIn K (.ref Cd) "_says" = some none)
    (aX_Cb : PySem.W.nsIn K mainGlobals "KnowingDoubter" = some (some (.ref Cb)))
    (bX_Cb : PySem.W.isClsIn K Cb = true)
    (tX_Cb : PySem.W.typeIn K (.ref Cb) = some (.type "type"))
    (pgX_Cb : PySem.W.plainGet K Cb Str.empty = true)
    (hdX_Cb : PySem.W.hasDictIn K Cb = true)
    (poX_Cb : PySem.W.plainOver K Cb = true)
    (saX_Cb : PySem.W.findIn K (.ref Cb) "__setattr__" = some (some (.builtin "object.__setattr__")))
    (mkX_Cb : PySem.W.makesIn K Cb = true)
    (kcX_Cb : PySem.W.keepIn K (.ref Cb) = true)
    (iaX_Cb : PySem.W.findIn K (.ref Cb) "__class__" = some (some (.builtin "object.__class__")))
    (imX_Cb : PySem.W.mroIn K Cb (.type "object") = some true)
    (seX_Cb : PySem.W.subIn K (.ref Cb) (.ref Cb) = some true)
    (nsizeX_Cb : PySem.W.findIn K (.ref Cb) "size" = some none)
    (n_hearsX_Cb : PySem.W.findIn K (.ref Cb) "_hears" = some none)
    (n_saysX_Cb : PySem.W.findIn K (.ref Cb) "_says" = some none)
    (n_knownX_Cb : PySem.W.findIn K (.ref Cb) "_known" = some none)
    (lk101 : K.lookup fi101 = some ⟨eo101, ey101, .func (PySem.W.ksFn "__init__" "Knower.__init__" (defArgs sKInit) (defBody sKInit) (defScope sKInit) .none eV101 ed101 ep101 ez101 (.ref ca101) et101 cc101), es101⟩)
    (cd101_ : PySem.W.codeIn K (.ref ca101) "Knower.__init__" = true)
    (lc101 : K.lookup ca101 = some ⟨ek101, ew101, .fields ev101, er101⟩)
    (vs101 : ev101[2]? = some (.str ef101 eg101))
    (fl101 : ((l.prog.main.file : Str) == ef101) = true)
    (ce101 : K.lookup cc101 = some ⟨el101, eu101, .cell (some (.ref Ck)), eq101⟩)
    (cx101 : (PySem.W.clsIn K Ck).isSome = true)
    (is101 : PySem.W.isFn K (.ref fi101) = true)
    (kp101 : PySem.W.keepIn K (.ref fi101) = true)
    (ty101 : PySem.W.typeIn K (.ref fi101) = some (.type "function"))
    (fn101 : PySem.W.fnIn K fi101 = true)
    (nx1s : PySem.W.mroIn K Ck (.ref Ck) = some true)
    (nx1a : PySem.W.ks_superIn K Ck Ck "__init__" = some (some (.ref f12)))
    (nx2s : PySem.W.mroIn K Cb (.ref Ck) = some true)
    (nx2a : PySem.W.ks_superIn K Cb Ck "__init__" = some (some (.ref f12)))
    (at_init_Cp : PySem.W.findIn K (.ref Cp) "__init__" = some (some (.ref f12)))
    (at_init_Ck : PySem.W.findIn K (.ref Ck) "__init__" = some (some (.ref fi101)))
    (at_init_Cd : PySem.W.findIn K (.ref Cd) "__init__" = some (some (.ref f12)))
    (at_init_Cb : PySem.W.findIn K (.ref Cb) "__init__" = some (some (.ref fi101)))
    : ∃ fd : FuncData, (∀ (s : Shared) (v : Value), BindsTo s fd ⟨[v], []⟩ [("_law_script", v)]) ∧ ∀ base : Heap, K.In base → base.Ns mainGlobals mg → FnOk l.prog w K mg base CX0 8 fa fd ["_law_script"] (spLaw K) := by
  have e := hfa.symm.trans (PySem.W.mg_of X G a16)
  cases e
  have F1 := fun_mk (st := sIsWord) l1 c1 k1
  have b1 := F1.binds (ps := ["word", "size"]) fun _ _ _ _ _ _ us hl => match us, hl with | [_, _], _ => rfl
  have F2 := fun_mk (st := sAllWords) l2 c2 k2
  have b2 := F2.binds (ps := ["words", "size"]) fun _ _ _ _ _ _ us hl => match us, hl with | [_, _], _ => rfl
  have F3 := fun_mk (st := sIsSize) l3 c3 k3
  have b3 := F3.binds (ps := ["size"]) fun _ _ _ _ _ _ us hl => match us, hl with | [_], _ => rfl
  have F4 := fun_mk (st := sCheckSize) l4 c4 k4
  have b4 := F4.binds (ps := ["size"]) fun _ _ _ _ _ _ us hl => match us, hl with | [_], _ => rfl
  have F5 := fun_mk (st := sCheckWord) l5 c5 k5
  have b5 := F5.binds (ps := ["word", "size"]) fun _ _ _ _ _ _ us hl => match us, hl with | [_, _], _ => rfl
  have F6 := fun_mk (st := sAsc) l6 c6 k6
  have b6 := F6.binds (ps := ["words", "size"]) fun _ _ _ _ _ _ us hl => match us, hl with | [_, _], _ => rfl
  have F7 := fun_mk (st := sBox) l7 c7 k7
  have b7 := F7.binds (ps := ["_law_script"]) fun _ _ _ _ _ _ us hl => match us, hl with | [_], _ => rfl
  have F8 := fun_mk (st := sTake) l8 c8 k8
  have b8 := F8.binds (ps := ["_law_box_here", "_law_many"]) fun _ _ _ _ _ _ us hl => match us, hl with | [_, _], _ => rfl
  have F9 := fun_mk (st := sWords) l9 c9 k9
  have b9 := F9.binds (ps := ["_law_box_here", "_law_n", "_law_least"]) fun _ _ _ _ _ _ us hl => match us, hl with | [_, _, _], _ => rfl
  have F10 := fun_mk (st := sSingle) l10 c10 k10
  have b10 := F10.binds (ps := ["_law_e"]) fun _ _ _ _ _ _ us hl => match us, hl with | [_], _ => rfl
  have F11 := fun_mk (st := sFar) l11 c11 k11
  have b11 := F11.binds (ps := ["_law_box_here", "_law_n"]) fun _ _ _ _ _ _ us hl => match us, hl with | [_, _], _ => rfl
  have F12 := fun_mk (st := sPInit) l12 c12 k12
  have b12 := F12.binds (ps := ["self", "hears", "says"]) fun _ _ _ _ _ _ us hl => match us, hl with | [_, _, _], _ => rfl
  have F13 := fun_mk (st := sOuts) l13 c13 k13
  have b13 := F13.binds (ps := ["_law_box_here", "_law_n"]) fun _ _ _ _ _ _ us hl => match us, hl with | [_, _], _ => rfl
  have F14 := fun_mk (st := sPersonL) l14 c14 k14
  have b14 := F14.binds (ps := ["_law_box_here", "_law_n"]) fun _ _ _ _ _ _ us hl => match us, hl with | [_, _], _ => rfl
  have F15 := fun_mk (st := sPErr) l15 c15 k15
  have b15 := F15.binds (ps := ["_law_which", "_law_hears", "_law_says", "_law_knows"]) fun _ _ _ _ _ _ us hl => match us, hl with | [_, _, _, _], _ => rfl
  have F16 := fun_mk (st := sLaw) l16 c16 k16
  have B : Bt mg := ⟨(PySem.W.mg_none_of X G z_len), (PySem.W.mg_none_of X G z_range), (PySem.W.mg_none_of X G z_all), (PySem.W.mg_none_of X G z_list), (PySem.W.mg_none_of X G z_tuple), (PySem.W.mg_none_of X G z_enumerate), (PySem.W.mg_none_of X G z_isinstance), (PySem.W.mg_none_of X G z_int), (PySem.W.mg_none_of X G z_bool), (PySem.W.mg_none_of X G z_str), (PySem.W.mg_none_of X G z_abs)⟩
  have T : CT K mg C := ⟨PySem.W.mg_of X G aC, ⟨pg, hd, po, sa⟩, ⟨rd, rg⟩, ⟨_, ms⟩, nS, nR, nP⟩
  have I : C8.InsC K C := ⟨⟨pg, hd, po, sa⟩, ia, ic, it, im, by unfold PySem.W.kitOne; rw [if_pos (by simp)]⟩
  have EG : ErrG mg ⟨eM, e0, e1, e2, e3, e4, e5, e6, e7, e8, e9, e10, e11, e12, e13, e14, e15, e16, e17, e18⟩ := ⟨PySem.W.mg_of X G gM, PySem.W.mg_of X G g0_, PySem.W.mg_of X G g1_, PySem.W.mg_of X G g2_, PySem.W.mg_of X G g3_, PySem.W.mg_of X G g4_, PySem.W.mg_of X G g5_, PySem.W.mg_of X G g6_, PySem.W.mg_of X G g7_, PySem.W.mg_of X G g8_, PySem.W.mg_of X G g9_, PySem.W.mg_of X G g10_, PySem.W.mg_of X G g11_, PySem.W.mg_of X G g12_, PySem.W.mg_of X G g13_, PySem.W.mg_of X G g14_, PySem.W.mg_of X G g15_, PySem.W.mg_of X G g16_, PySem.W.mg_of X G g17_, PySem.W.mg_of X G g18_, (PySem.W.mg_none_of X G z_ValueError), (PySem.W.mg_none_of X G z_isinstance), (PySem.W.mg_none_of X G z_len)⟩
  have HK : Hk l.prog K mg ⟨eM, e0, e1, e2, e3, e4, e5, e6, e7, e8, e9, e10, e11, e12, e13, e14, e15, e16, e17, e18⟩ := ⟨EG, ⟨_, _, F10, PySem.W.mg_of X G a10, b10⟩⟩
  have O5 := oex_mk lC5 rV5 sa5 ex5 t5_ kC5
  have T5 := ert_mk (P := l.prog) (mg := mg) (st := sBadPersonI) O5 se5 (PySem.W.mg_none_of X G z_super) top_ stn al5 vE5 lk5 cd5_ lc5 vs5 fl5 ce5 iI5 tI5
  have R5 : Er l.prog K mg "BadPerson" ["part"] e5 := ⟨O5, PySem.W.mg_of X G g5_, _, _, iI5, tI5, .all fun us hl => match us, hl with | [_, _], _ => rfl, fun w base => ok_BadPersonI T5 no5_0⟩
  have Q5 : KitsG K ⟨eM, e0, e1, e2, e3, e4, e5, e6, e7, e8, e9, e10, e11, e12, e13, e14, e15, e16, e17, e18⟩ e5 := ⟨⟨xg5, xk5, ex5, xd5, xa5, ic, it, xm5⟩, kit_of se5 bM tM_ sM5, kitV_ty vE5, false, false, false, false, false, true, false, false, false, false, false, false, false, false, false, false, false, false, false, kit_of se5 b0_ t0_ s5_0, kit_of se5 b1_ t1_ s5_1, kit_of se5 b2_ t2_ s5_2, kit_of se5 b3_ t3_ s5_3, kit_of se5 b4_ t4_ s5_4, kit_of se5 b5_ t5_ s5_5, kit_of se5 b6_ t6_ s5_6, kit_of se5 b7_ t7_ s5_7, kit_of se5 b8_ t8_ s5_8, kit_of se5 b9_ t9_ s5_9, kit_of se5 b10_ t10_ s5_10, kit_of se5 b11_ t11_ s5_11, kit_of se5 b12_ t12_ s5_12, kit_of se5 b13_ t13_ s5_13, kit_of se5 b14_ t14_ s5_14, kit_of se5 b15_ t15_ s5_15, kit_of se5 b16_ t16_ s5_16, kit_of se5 b17_ t17_ s5_17, kit_of se5 b18_ t18_ s5_18, by decide⟩
  have V5 : ErX l.prog K mg ⟨eM, e0, e1, e2, e3, e4, e5, e6, e7, e8, e9, e10, e11, e12, e13, e14, e15, e16, e17, e18⟩ "BadPerson" ["part"] e5 := ⟨R5, Q5, fun n hn => by
    rcases List.mem_cons.mp hn with e | hn
    · rw [e]; exact no5_0
    cases hn⟩
  have X5_5 := PySem.W.exm_ref ex5 xd5 t5_ s5_5
  have cl_Cp : Cls K Cp := ⟨pgX_Cp, hdX_Cp, poX_Cp, saX_Cp⟩
  have TT_Cp : PT K mg Cp := ⟨cl_Cp, nsizeX_Cp, n_hearsX_Cp, n_saysX_Cp⟩
  have II_Cp : C8.InsC K Cp := ⟨cl_Cp, iaX_Cp, ic, it, imX_Cp, by unfold PySem.W.kitOne; rw [if_pos (by simp)]⟩
  have cl_Ck : Cls K Ck := ⟨pgX_Ck, hdX_Ck, poX_Ck, saX_Ck⟩
  have TT_Ck : PT K mg Ck := ⟨cl_Ck, nsizeX_Ck, n_hearsX_Ck, n_saysX_Ck⟩
  have II_Ck : C8.InsC K Ck := ⟨cl_Ck, iaX_Ck, ic, it, imX_Ck, by unfold PySem.W.kitOne; rw [if_pos (by simp)]⟩
  have cl_Cd : Cls K Cd := ⟨pgX_Cd, hdX_Cd, poX_Cd, saX_Cd⟩
  have TT_Cd : PT K mg Cd := ⟨cl_Cd, nsizeX_Cd, n_hearsX_Cd, n_saysX_Cd⟩
  have II_Cd : C8.InsC K Cd := ⟨cl_Cd, iaX_Cd, ic, it, imX_Cd, by unfold PySem.W.kitOne; rw [if_pos (by simp)]⟩
  have cl_Cb : Cls K Cb := ⟨pgX_Cb, hdX_Cb, poX_Cb, saX_Cb⟩
  have TT_Cb : PT K mg Cb := ⟨cl_Cb, nsizeX_Cb, n_hearsX_Cb, n_saysX_Cb⟩
  have II_Cb : C8.InsC K Cb := ⟨cl_Cb, iaX_Cb, ic, it, imX_Cb, by unfold PySem.W.kitOne; rw [if_pos (by simp)]⟩
  have SB : SupM.SupB l.prog K mg := ⟨(PySem.W.mg_none_of X G z_super), top_, stn⟩
  have DS101 : SupM.DefS l.prog K Ck "__init__" "Knower.__init__" sKInit fi101 ca101 cc101 _ := ⟨⟨_, _, _, _, _, _, _, _, _, _, _, _, _, _, _, _, _, rfl, lk101, cd101_, lc101, vs101, fl101, ce101⟩, cx101⟩
  have BS101 : Binds K (PySem.W.ksFn "__init__" "Knower.__init__" (defArgs sKInit) (defBody sKInit) (defScope sKInit) .none eV101 ed101 ep101 ez101 (.ref ca101) et101 cc101) ["self", "hears", "says", "knows"] [] := .all fun us hl => match us, hl with | [_, _, _, _], _ => rfl
  have nx1 : SupM.Next K Ck Ck "__init__" _ := ⟨nx1s, nx1a, y12, n12⟩
  have nx2 : SupM.Next K Cb Ck "__init__" _ := ⟨nx2s, nx2a, y12, n12⟩
  have L : Lt K mg := ⟨B, ⟨_, _, F8, PySem.W.mg_of X G a8, b8⟩, ⟨_, _, F9, PySem.W.mg_of X G a9, b9⟩⟩
  have Gg : Gs K mg C := ⟨B, T, ⟨_, _, F1, PySem.W.mg_of X G a1, b1⟩, ⟨_, _, F2, PySem.W.mg_of X G a2, b2⟩, ⟨_, _, F3, PySem.W.mg_of X G a3, b3⟩, ⟨_, _, F4, PySem.W.mg_of X G a4, b4⟩, ⟨_, _, F5, PySem.W.mg_of X G a5, b5⟩, ⟨_, _, F6, PySem.W.mg_of X G a6, b6⟩⟩
  have A : Al l.prog K mg ⟨eM, e0, e1, e2, e3, e4, e5, e6, e7, e8, e9, e10, e11, e12, e13, e14, e15, e16, e17, e18⟩ C Cp Ck Cd Cb f12 fi101 := ⟨L, Gg, TT_Cp, TT_Ck, TT_Cd, TT_Cb, n_knownX_Ck, n_knownX_Cb, (PySem.W.mg_of X G aX_Cp), (PySem.W.mg_of X G aX_Ck), (PySem.W.mg_of X G aX_Cd), (PySem.W.mg_of X G aX_Cb), SB, ⟨mkX_Cp, at_init_Cp, i12, kcX_Cp⟩, ⟨mkX_Ck, at_init_Ck, is101, kcX_Ck⟩, ⟨mkX_Cd, at_init_Cd, i12, kcX_Cd⟩, ⟨mkX_Cb, at_init_Cb, is101, kcX_Cb⟩, ⟨_, F12, b12⟩, ⟨_, _, _, DS101, BS101⟩, nx1, nx2, ⟨_, _, F7, PySem.W.mg_of X G a7, b7⟩, ⟨_, _, F13, PySem.W.mg_of X G a13, b13⟩, ⟨_, _, F14, PySem.W.mg_of X G a14, b14⟩, ⟨_, _, F11, PySem.W.mg_of X G a11, b11⟩, ⟨_, _, F15, PySem.W.mg_of X G a15, b15⟩, HK, V5, X5_5⟩
  exact ⟨PySem.W.fnOf "law" "law" (defArgs sLaw) (defBody sLaw) (defScope sLaw) .none kV16 dc16 pm16 an16 cd16 ct16, fun s v => .of_eq rfl, fun base _ _ =>
    ok_law F16 A⟩
def hdB0 (K : PySem.W.Frag) : Bool := He.eqO (PySem.W.nsIn K mainGlobals "Table") (some (some (.ref (He.ga K "Table")))) && (He.eqO (PySem.W.nsIn K mainGlobals "is_word") (some (some (.ref (He.ga K "is_word")))) && (PySem.W.keepIn K (.ref (He.ga K "is_word")) && (He.eqO (PySem.W.nsIn K mainGlobals "all_words") (some (some (.ref (He.ga K "all_words")))) && (PySem.W.keepIn K (.ref (He.ga K "all_words")) && (He.eqO (PySem.W.nsIn K mainGlobals "is_size") (some (some (.ref (He.ga K "is_size")))) && (PySem.W.keepIn K (.ref (He.ga K "is_size")) && (He.eqO (PySem.W.nsIn K mainGlobals "check_size") (some (some (.ref (He.ga K "check_size")))) && (PySem.W.keepIn K (.ref (He.ga K "check_size")) && (He.eqO (PySem.W.nsIn K mainGlobals "check_word") (some (some (.ref (He.ga K "check_word")))) && (PySem.W.keepIn K (.ref (He.ga K "check_word")) && (He.eqO (PySem.W.nsIn K mainGlobals "ascending") (some (some (.ref (He.ga K "ascending")))) && (PySem.W.keepIn K (.ref (He.ga K "ascending")) && (He.eqO (PySem.W.nsIn K mainGlobals "_law_box") (some (some (.ref (He.ga K "_law_box")))) && (PySem.W.keepIn K (.ref (He.ga K "_law_box")) && (He.eqO (PySem.W.nsIn K mainGlobals "_law_take") (some (some (.ref (He.ga K "_law_take")))) && (PySem.W.keepIn K (.ref (He.ga K "_law_take")) && (He.eqO (PySem.W.nsIn K mainGlobals "_law_words") (some (some (.ref (He.ga K "_law_words")))) && (PySem.W.keepIn K (.ref (He.ga K "_law_words")) && (He.eqO (PySem.W.nsIn K mainGlobals "_law_single") (some (some (.ref (He.ga K "_law_single")))))))))))))))))))))))
theorem hdT0 {K : PySem.W.Frag} (h : hdB0 K = true) : (PySem.W.nsIn K mainGlobals "Table" = some (some (.ref (He.ga K "Table")))) ∧ (PySem.W.nsIn K mainGlobals "is_word" = some (some (.ref (He.ga K "is_word")))) ∧ (PySem.W.keepIn K (.ref (He.ga K "is_word")) = true) ∧ (PySem.W.nsIn K mainGlobals "all_words" = some (some (.ref (He.ga K "all_words")))) ∧ (PySem.W.keepIn K (.ref (He.ga K "all_words")) = true) ∧ (PySem.W.nsIn K mainGlobals "is_size" = some (some (.ref (He.ga K "is_size")))) ∧ (PySem.W.keepIn K (.ref (He.ga K "is_size")) = true) ∧ (PySem.W.nsIn K mainGlobals "check_size" = some (some (.ref (He.ga K "check_size")))) ∧ (PySem.W.keepIn K (.ref (He.ga K "check_size")) = true) ∧ (PySem.W.nsIn K mainGlobals "check_word" = some (some (.ref (He.ga K "check_word")))) ∧ (PySem.W.keepIn K (.ref (He.ga K "check_word")) = true) ∧ (PySem.W.nsIn K mainGlobals "ascending" = some (some (.ref (He.ga K "ascending")))) ∧ (PySem.W.keepIn K (.ref (He.ga K "ascending")) = true) ∧ (PySem.W.nsIn K mainGlobals "_law_box" = some (some (.ref (He.ga K "_law_box")))) ∧ (PySem.W.keepIn K (.ref (He.ga K "_law_box")) = true) ∧ (PySem.W.nsIn K mainGlobals "_law_take" = some (some (.ref (He.ga K "_law_take")))) ∧ (PySem.W.keepIn K (.ref (He.ga K "_law_take")) = true) ∧ (PySem.W.nsIn K mainGlobals "_law_words" = some (some (.ref (He.ga K "_law_words")))) ∧ (PySem.W.keepIn K (.ref (He.ga K "_law_words")) = true) ∧ (PySem.W.nsIn K mainGlobals "_law_single" = some (some (.ref (He.ga K "_law_single")))) := by
  unfold hdB0 at h
  obtain ⟨h0, h⟩ := He.ba h
  obtain ⟨h1, h⟩ := He.ba h
  obtain ⟨h2, h⟩ := He.ba h
  obtain ⟨h3, h⟩ := He.ba h
  obtain ⟨h4, h⟩ := He.ba h
  obtain ⟨h5, h⟩ := He.ba h
  obtain ⟨h6, h⟩ := He.ba h
  obtain ⟨h7, h⟩ := He.ba h
  obtain ⟨h8, h⟩ := He.ba h
  obtain ⟨h9, h⟩ := He.ba h
  obtain ⟨h10, h⟩ := He.ba h
  obtain ⟨h11, h⟩ := He.ba h
  obtain ⟨h12, h⟩ := He.ba h
  obtain ⟨h13, h⟩ := He.ba h
  obtain ⟨h14, h⟩ := He.ba h
  obtain ⟨h15, h⟩ := He.ba h
  obtain ⟨h16, h⟩ := He.ba h
  obtain ⟨h17, h⟩ := He.ba h
  obtain ⟨h18, h⟩ := He.ba h
  exact ⟨He.eqO_ok h0, He.eqO_ok h1, h2, He.eqO_ok h3, h4, He.eqO_ok h5, h6, He.eqO_ok h7, h8, He.eqO_ok h9, h10, He.eqO_ok h11, h12, He.eqO_ok h13, h14, He.eqO_ok h15, h16, He.eqO_ok h17, h18, He.eqO_ok h⟩
def hdB1 (K : PySem.W.Frag) : Bool := PySem.W.keepIn K (.ref (He.ga K "_law_single")) && (He.eqO (PySem.W.nsIn K mainGlobals "_law_far") (some (some (.ref (He.ga K "_law_far")))) && (PySem.W.keepIn K (.ref (He.ga K "_law_far")) && (PySem.W.isFn K (.ref (He.ma K (He.ga K "Person") "__init__")) && (PySem.W.fnIn K (He.ma K (He.ga K "Person") "__init__") && (decide (PySem.W.typeIn K (.ref (He.ma K (He.ga K "Person") "__init__")) = some (.type "function")) && (PySem.W.keepIn K (.ref (He.ma K (He.ga K "Person") "__init__")) && (He.eqO (PySem.W.nsIn K mainGlobals "_law_outs") (some (some (.ref (He.ga K "_law_outs")))) && (PySem.W.keepIn K (.ref (He.ga K "_law_outs")) && (He.eqO (PySem.W.nsIn K mainGlobals "_law_person") (some (some (.ref (He.ga K "_law_person")))) && (PySem.W.keepIn K (.ref (He.ga K "_law_person")) && (He.eqO (PySem.W.nsIn K mainGlobals "_law_person_error") (some (some (.ref (He.ga K "_law_person_error")))) && (PySem.W.keepIn K (.ref (He.ga K "_law_person_error")) && (He.eqO (PySem.W.nsIn K mainGlobals "law") (some (some (.ref (He.ga K "law")))) && (PySem.W.keepIn K (.ref (He.ga K "law")) && (PySem.W.plainGet K (He.ga K "Table") Str.empty && (PySem.W.hasDictIn K (He.ga K "Table") && (PySem.W.plainOver K (He.ga K "Table") && (He.eqO (PySem.W.findIn K (.ref (He.ga K "Table")) "__setattr__") (some (some (.builtin "object.__setattr__"))) && (PySem.W.makesIn K (He.ga K "Table"))))))))))))))))))))
theorem hdT1 {K : PySem.W.Frag} (h : hdB1 K = true) : (PySem.W.keepIn K (.ref (He.ga K "_law_single")) = true) ∧ (PySem.W.nsIn K mainGlobals "_law_far" = some (some (.ref (He.ga K "_law_far")))) ∧ (PySem.W.keepIn K (.ref (He.ga K "_law_far")) = true) ∧ (PySem.W.isFn K (.ref (He.ma K (He.ga K "Person") "__init__")) = true) ∧ (PySem.W.fnIn K (He.ma K (He.ga K "Person") "__init__") = true) ∧ (PySem.W.typeIn K (.ref (He.ma K (He.ga K "Person") "__init__")) = some (.type "function")) ∧ (PySem.W.keepIn K (.ref (He.ma K (He.ga K "Person") "__init__")) = true) ∧ (PySem.W.nsIn K mainGlobals "_law_outs" = some (some (.ref (He.ga K "_law_outs")))) ∧ (PySem.W.keepIn K (.ref (He.ga K "_law_outs")) = true) ∧ (PySem.W.nsIn K mainGlobals "_law_person" = some (some (.ref (He.ga K "_law_person")))) ∧ (PySem.W.keepIn K (.ref (He.ga K "_law_person")) = true) ∧ (PySem.W.nsIn K mainGlobals "_law_person_error" = some (some (.ref (He.ga K "_law_person_error")))) ∧ (PySem.W.keepIn K (.ref (He.ga K "_law_person_error")) = true) ∧ (PySem.W.nsIn K mainGlobals "law" = some (some (.ref (He.ga K "law")))) ∧ (PySem.W.keepIn K (.ref (He.ga K "law")) = true) ∧ (PySem.W.plainGet K (He.ga K "Table") Str.empty = true) ∧ (PySem.W.hasDictIn K (He.ga K "Table") = true) ∧ (PySem.W.plainOver K (He.ga K "Table") = true) ∧ (PySem.W.findIn K (.ref (He.ga K "Table")) "__setattr__" = some (some (.builtin "object.__setattr__"))) ∧ (PySem.W.makesIn K (He.ga K "Table") = true) := by
  unfold hdB1 at h
  obtain ⟨h0, h⟩ := He.ba h
  obtain ⟨h1, h⟩ := He.ba h
  obtain ⟨h2, h⟩ := He.ba h
  obtain ⟨h3, h⟩ := He.ba h
  obtain ⟨h4, h⟩ := He.ba h
  obtain ⟨h5, h⟩ := He.ba h
  obtain ⟨h6, h⟩ := He.ba h
  obtain ⟨h7, h⟩ := He.ba h
  obtain ⟨h8, h⟩ := He.ba h
  obtain ⟨h9, h⟩ := He.ba h
  obtain ⟨h10, h⟩ := He.ba h
  obtain ⟨h11, h⟩ := He.ba h
  obtain ⟨h12, h⟩ := He.ba h
  obtain ⟨h13, h⟩ := He.ba h
  obtain ⟨h14, h⟩ := He.ba h
  obtain ⟨h15, h⟩ := He.ba h
  obtain ⟨h16, h⟩ := He.ba h
  obtain ⟨h17, h⟩ := He.ba h
  obtain ⟨h18, h⟩ := He.ba h
  exact ⟨h0, He.eqO_ok h1, h2, h3, h4, of_decide_eq_true h5, h6, He.eqO_ok h7, h8, He.eqO_ok h9, h10, He.eqO_ok h11, h12, He.eqO_ok h13, h14, h15, h16, h17, He.eqO_ok h18, h⟩
def hdB2 (K : PySem.W.Frag) : Bool := PySem.W.keepIn K (.ref (He.ga K "Table")) && (He.eqO (PySem.W.findIn K (.ref (He.ga K "Table")) "size") (some none) && (He.eqO (PySem.W.findIn K (.ref (He.ga K "Table")) "_rows") (some none) && (He.eqO (PySem.W.findIn K (.ref (He.ga K "Table")) "_pairs") (some none) && (PySem.W.readsIn K (He.ga K "Table") (.type "type") && (He.eqO (PySem.W.specialIn K (.ref (He.ga K "Table")) "__getattribute__") (some (some (.builtin "type.__getattribute__"))) && (Hd.cvalB K (He.ga K "Table") "MOST" 6 && (He.eqO (PySem.W.findIn K (.ref (He.ga K "Table")) "__class__") (some (some (.builtin "object.__class__"))) && (He.eqO (PySem.W.specialIn K (.builtin "object.__class__") "__get__") (some (some (.builtin "getset_descriptor.__get__"))) && (decide (PySem.W.takesIn K (.builtin "object.__class__") = some true) && (decide (PySem.W.mroIn K (He.ga K "Table") (.type "object") = some true) && (PySem.W.selfFirst K (He.ga K "Table") && (PySem.W.notFirst K (He.ga K "Table") (.ref (He.ga K "Table")) && (He.eqO (PySem.W.nsIn K mainGlobals "len") (some none) && (He.eqO (PySem.W.nsIn K mainGlobals "range") (some none) && (He.eqO (PySem.W.nsIn K mainGlobals "all") (some none) && (He.eqO (PySem.W.nsIn K mainGlobals "list") (some none) && (He.eqO (PySem.W.nsIn K mainGlobals "tuple") (some none) && (He.eqO (PySem.W.nsIn K mainGlobals "enumerate") (some none) && (He.eqO (PySem.W.nsIn K mainGlobals "isinstance") (some none))))))))))))))))))))
theorem hdT2 {K : PySem.W.Frag} (h : hdB2 K = true) : (PySem.W.keepIn K (.ref (He.ga K "Table")) = true) ∧ (PySem.W.findIn K (.ref (He.ga K "Table")) "size" = some none) ∧ (PySem.W.findIn K (.ref (He.ga K "Table")) "_rows" = some none) ∧ (PySem.W.findIn K (.ref (He.ga K "Table")) "_pairs" = some none) ∧ (PySem.W.readsIn K (He.ga K "Table") (.type "type") = true) ∧ (PySem.W.specialIn K (.ref (He.ga K "Table")) "__getattribute__" = some (some (.builtin "type.__getattribute__"))) ∧ (∃ t, PySem.W.findCls K (.ref (He.ga K "Table")) (.type "type") "MOST" = some (.val (.int 6 t))) ∧ (PySem.W.findIn K (.ref (He.ga K "Table")) "__class__" = some (some (.builtin "object.__class__"))) ∧ (PySem.W.specialIn K (.builtin "object.__class__") "__get__" = some (some (.builtin "getset_descriptor.__get__"))) ∧ (PySem.W.takesIn K (.builtin "object.__class__") = some true) ∧ (PySem.W.mroIn K (He.ga K "Table") (.type "object") = some true) ∧ (PySem.W.selfFirst K (He.ga K "Table") = true) ∧ (PySem.W.notFirst K (He.ga K "Table") (.ref (He.ga K "Table")) = true) ∧ (PySem.W.nsIn K mainGlobals "len" = some none) ∧ (PySem.W.nsIn K mainGlobals "range" = some none) ∧ (PySem.W.nsIn K mainGlobals "all" = some none) ∧ (PySem.W.nsIn K mainGlobals "list" = some none) ∧ (PySem.W.nsIn K mainGlobals "tuple" = some none) ∧ (PySem.W.nsIn K mainGlobals "enumerate" = some none) ∧ (PySem.W.nsIn K mainGlobals "isinstance" = some none) := by
  unfold hdB2 at h
  obtain ⟨h0, h⟩ := He.ba h
  obtain ⟨h1, h⟩ := He.ba h
  obtain ⟨h2, h⟩ := He.ba h
  obtain ⟨h3, h⟩ := He.ba h
  obtain ⟨h4, h⟩ := He.ba h
  obtain ⟨h5, h⟩ := He.ba h
  obtain ⟨h6, h⟩ := He.ba h
  obtain ⟨h7, h⟩ := He.ba h
  obtain ⟨h8, h⟩ := He.ba h
  obtain ⟨h9, h⟩ := He.ba h
  obtain ⟨h10, h⟩ := He.ba h
  obtain ⟨h11, h⟩ := He.ba h
  obtain ⟨h12, h⟩ := He.ba h
  obtain ⟨h13, h⟩ := He.ba h
  obtain ⟨h14, h⟩ := He.ba h
  obtain ⟨h15, h⟩ := He.ba h
  obtain ⟨h16, h⟩ := He.ba h
  obtain ⟨h17, h⟩ := He.ba h
  obtain ⟨h18, h⟩ := He.ba h
  exact ⟨h0, He.eqO_ok h1, He.eqO_ok h2, He.eqO_ok h3, h4, He.eqO_ok h5, Hd.cval_ok h6, He.eqO_ok h7, He.eqO_ok h8, of_decide_eq_true h9, of_decide_eq_true h10, h11, h12, He.eqO_ok h13, He.eqO_ok h14, He.eqO_ok h15, He.eqO_ok h16, He.eqO_ok h17, He.eqO_ok h18, He.eqO_ok h⟩
def hdB3 (K : PySem.W.Frag) : Bool := He.eqO (PySem.W.nsIn K mainGlobals "int") (some none) && (He.eqO (PySem.W.nsIn K mainGlobals "bool") (some none) && (He.eqO (PySem.W.nsIn K mainGlobals "str") (some none) && (He.eqO (PySem.W.nsIn K mainGlobals "abs") (some none) && (He.eqO (PySem.W.nsIn K mainGlobals "ValueError") (some none) && (He.eqO (PySem.W.nsIn K mainGlobals "super") (some none) && (He.eqO (PySem.W.nsIn K mainGlobals "MurmurError") (some (some (.ref (He.ga K "MurmurError")))) && (PySem.W.isClsIn K (He.ga K "MurmurError") && (decide (PySem.W.typeIn K (.ref (He.ga K "MurmurError")) = some (.type "type")) && (He.eqO (PySem.W.nsIn K mainGlobals "BadSize") (some (some (.ref (He.ga K "BadSize")))) && (PySem.W.isClsIn K (He.ga K "BadSize") && (decide (PySem.W.typeIn K (.ref (He.ga K "BadSize")) = some (.type "type")) && (He.eqO (PySem.W.nsIn K mainGlobals "BadTable") (some (some (.ref (He.ga K "BadTable")))) && (PySem.W.isClsIn K (He.ga K "BadTable") && (decide (PySem.W.typeIn K (.ref (He.ga K "BadTable")) = some (.type "type")) && (He.eqO (PySem.W.nsIn K mainGlobals "UnknownWord") (some (some (.ref (He.ga K "UnknownWord")))) && (PySem.W.isClsIn K (He.ga K "UnknownWord") && (decide (PySem.W.typeIn K (.ref (He.ga K "UnknownWord")) = some (.type "type")) && (He.eqO (PySem.W.nsIn K mainGlobals "SizeMismatch") (some (some (.ref (He.ga K "SizeMismatch")))) && (PySem.W.isClsIn K (He.ga K "SizeMismatch"))))))))))))))))))))
theorem hdT3 {K : PySem.W.Frag} (h : hdB3 K = true) : (PySem.W.nsIn K mainGlobals "int" = some none) ∧ (PySem.W.nsIn K mainGlobals "bool" = some none) ∧ (PySem.W.nsIn K mainGlobals "str" = some none) ∧ (PySem.W.nsIn K mainGlobals "abs" = some none) ∧ (PySem.W.nsIn K mainGlobals "ValueError" = some none) ∧ (PySem.W.nsIn K mainGlobals "super" = some none) ∧ (PySem.W.nsIn K mainGlobals "MurmurError" = some (some (.ref (He.ga K "MurmurError")))) ∧ (PySem.W.isClsIn K (He.ga K "MurmurError") = true) ∧ (PySem.W.typeIn K (.ref (He.ga K "MurmurError")) = some (.type "type")) ∧ (PySem.W.nsIn K mainGlobals "BadSize" = some (some (.ref (He.ga K "BadSize")))) ∧ (PySem.W.isClsIn K (He.ga K "BadSize") = true) ∧ (PySem.W.typeIn K (.ref (He.ga K "BadSize")) = some (.type "type")) ∧ (PySem.W.nsIn K mainGlobals "BadTable" = some (some (.ref (He.ga K "BadTable")))) ∧ (PySem.W.isClsIn K (He.ga K "BadTable") = true) ∧ (PySem.W.typeIn K (.ref (He.ga K "BadTable")) = some (.type "type")) ∧ (PySem.W.nsIn K mainGlobals "UnknownWord" = some (some (.ref (He.ga K "UnknownWord")))) ∧ (PySem.W.isClsIn K (He.ga K "UnknownWord") = true) ∧ (PySem.W.typeIn K (.ref (He.ga K "UnknownWord")) = some (.type "type")) ∧ (PySem.W.nsIn K mainGlobals "SizeMismatch" = some (some (.ref (He.ga K "SizeMismatch")))) ∧ (PySem.W.isClsIn K (He.ga K "SizeMismatch") = true) := by
  unfold hdB3 at h
  obtain ⟨h0, h⟩ := He.ba h
  obtain ⟨h1, h⟩ := He.ba h
  obtain ⟨h2, h⟩ := He.ba h
  obtain ⟨h3, h⟩ := He.ba h
  obtain ⟨h4, h⟩ := He.ba h
  obtain ⟨h5, h⟩ := He.ba h
  obtain ⟨h6, h⟩ := He.ba h
  obtain ⟨h7, h⟩ := He.ba h
  obtain ⟨h8, h⟩ := He.ba h
  obtain ⟨h9, h⟩ := He.ba h
  obtain ⟨h10, h⟩ := He.ba h
  obtain ⟨h11, h⟩ := He.ba h
  obtain ⟨h12, h⟩ := He.ba h
  obtain ⟨h13, h⟩ := He.ba h
  obtain ⟨h14, h⟩ := He.ba h
  obtain ⟨h15, h⟩ := He.ba h
  obtain ⟨h16, h⟩ := He.ba h
  obtain ⟨h17, h⟩ := He.ba h
  obtain ⟨h18, h⟩ := He.ba h
  exact ⟨He.eqO_ok h0, He.eqO_ok h1, He.eqO_ok h2, He.eqO_ok h3, He.eqO_ok h4, He.eqO_ok h5, He.eqO_ok h6, h7, of_decide_eq_true h8, He.eqO_ok h9, h10, of_decide_eq_true h11, He.eqO_ok h12, h13, of_decide_eq_true h14, He.eqO_ok h15, h16, of_decide_eq_true h17, He.eqO_ok h18, h⟩
def hdB4 (K : PySem.W.Frag) : Bool := decide (PySem.W.typeIn K (.ref (He.ga K "SizeMismatch")) = some (.type "type")) && (He.eqO (PySem.W.nsIn K mainGlobals "BadCount") (some (some (.ref (He.ga K "BadCount")))) && (PySem.W.isClsIn K (He.ga K "BadCount") && (decide (PySem.W.typeIn K (.ref (He.ga K "BadCount")) = some (.type "type")) && (He.eqO (PySem.W.nsIn K mainGlobals "BadPerson") (some (some (.ref (He.ga K "BadPerson")))) && (PySem.W.isClsIn K (He.ga K "BadPerson") && (decide (PySem.W.typeIn K (.ref (He.ga K "BadPerson")) = some (.type "type")) && (He.eqO (PySem.W.nsIn K mainGlobals "BadLetter") (some (some (.ref (He.ga K "BadLetter")))) && (PySem.W.isClsIn K (He.ga K "BadLetter") && (decide (PySem.W.typeIn K (.ref (He.ga K "BadLetter")) = some (.type "type")) && (He.eqO (PySem.W.nsIn K mainGlobals "UnknownPerson") (some (some (.ref (He.ga K "UnknownPerson")))) && (PySem.W.isClsIn K (He.ga K "UnknownPerson") && (decide (PySem.W.typeIn K (.ref (He.ga K "UnknownPerson")) = some (.type "type")) && (He.eqO (PySem.W.nsIn K mainGlobals "TooMany") (some (some (.ref (He.ga K "TooMany")))) && (PySem.W.isClsIn K (He.ga K "TooMany") && (decide (PySem.W.typeIn K (.ref (He.ga K "TooMany")) = some (.type "type")) && (He.eqO (PySem.W.nsIn K mainGlobals "BadPattern") (some (some (.ref (He.ga K "BadPattern")))) && (PySem.W.isClsIn K (He.ga K "BadPattern") && (decide (PySem.W.typeIn K (.ref (He.ga K "BadPattern")) = some (.type "type")) && (He.eqO (PySem.W.nsIn K mainGlobals "SameWord") (some (some (.ref (He.ga K "SameWord")))))))))))))))))))))))
theorem hdT4 {K : PySem.W.Frag} (h : hdB4 K = true) : (PySem.W.typeIn K (.ref (He.ga K "SizeMismatch")) = some (.type "type")) ∧ (PySem.W.nsIn K mainGlobals "BadCount" = some (some (.ref (He.ga K "BadCount")))) ∧ (PySem.W.isClsIn K (He.ga K "BadCount") = true) ∧ (PySem.W.typeIn K (.ref (He.ga K "BadCount")) = some (.type "type")) ∧ (PySem.W.nsIn K mainGlobals "BadPerson" = some (some (.ref (He.ga K "BadPerson")))) ∧ (PySem.W.isClsIn K (He.ga K "BadPerson") = true) ∧ (PySem.W.typeIn K (.ref (He.ga K "BadPerson")) = some (.type "type")) ∧ (PySem.W.nsIn K mainGlobals "BadLetter" = some (some (.ref (He.ga K "BadLetter")))) ∧ (PySem.W.isClsIn K (He.ga K "BadLetter") = true) ∧ (PySem.W.typeIn K (.ref (He.ga K "BadLetter")) = some (.type "type")) ∧ (PySem.W.nsIn K mainGlobals "UnknownPerson" = some (some (.ref (He.ga K "UnknownPerson")))) ∧ (PySem.W.isClsIn K (He.ga K "UnknownPerson") = true) ∧ (PySem.W.typeIn K (.ref (He.ga K "UnknownPerson")) = some (.type "type")) ∧ (PySem.W.nsIn K mainGlobals "TooMany" = some (some (.ref (He.ga K "TooMany")))) ∧ (PySem.W.isClsIn K (He.ga K "TooMany") = true) ∧ (PySem.W.typeIn K (.ref (He.ga K "TooMany")) = some (.type "type")) ∧ (PySem.W.nsIn K mainGlobals "BadPattern" = some (some (.ref (He.ga K "BadPattern")))) ∧ (PySem.W.isClsIn K (He.ga K "BadPattern") = true) ∧ (PySem.W.typeIn K (.ref (He.ga K "BadPattern")) = some (.type "type")) ∧ (PySem.W.nsIn K mainGlobals "SameWord" = some (some (.ref (He.ga K "SameWord")))) := by
  unfold hdB4 at h
  obtain ⟨h0, h⟩ := He.ba h
  obtain ⟨h1, h⟩ := He.ba h
  obtain ⟨h2, h⟩ := He.ba h
  obtain ⟨h3, h⟩ := He.ba h
  obtain ⟨h4, h⟩ := He.ba h
  obtain ⟨h5, h⟩ := He.ba h
  obtain ⟨h6, h⟩ := He.ba h
  obtain ⟨h7, h⟩ := He.ba h
  obtain ⟨h8, h⟩ := He.ba h
  obtain ⟨h9, h⟩ := He.ba h
  obtain ⟨h10, h⟩ := He.ba h
  obtain ⟨h11, h⟩ := He.ba h
  obtain ⟨h12, h⟩ := He.ba h
  obtain ⟨h13, h⟩ := He.ba h
  obtain ⟨h14, h⟩ := He.ba h
  obtain ⟨h15, h⟩ := He.ba h
  obtain ⟨h16, h⟩ := He.ba h
  obtain ⟨h17, h⟩ := He.ba h
  obtain ⟨h18, h⟩ := He.ba h
  exact ⟨of_decide_eq_true h0, He.eqO_ok h1, h2, of_decide_eq_true h3, He.eqO_ok h4, h5, of_decide_eq_true h6, He.eqO_ok h7, h8, of_decide_eq_true h9, He.eqO_ok h10, h11, of_decide_eq_true h12, He.eqO_ok h13, h14, of_decide_eq_true h15, He.eqO_ok h16, h17, of_decide_eq_true h18, He.eqO_ok h⟩
def hdB5 (K : PySem.W.Frag) : Bool := PySem.W.isClsIn K (He.ga K "SameWord") && (decide (PySem.W.typeIn K (.ref (He.ga K "SameWord")) = some (.type "type")) && (He.eqO (PySem.W.nsIn K mainGlobals "UnknownClue") (some (some (.ref (He.ga K "UnknownClue")))) && (PySem.W.isClsIn K (He.ga K "UnknownClue") && (decide (PySem.W.typeIn K (.ref (He.ga K "UnknownClue")) = some (.type "type")) && (He.eqO (PySem.W.nsIn K mainGlobals "BadPlace") (some (some (.ref (He.ga K "BadPlace")))) && (PySem.W.isClsIn K (He.ga K "BadPlace") && (decide (PySem.W.typeIn K (.ref (He.ga K "BadPlace")) = some (.type "type")) && (He.eqO (PySem.W.nsIn K mainGlobals "TooLong") (some (some (.ref (He.ga K "TooLong")))) && (PySem.W.isClsIn K (He.ga K "TooLong") && (decide (PySem.W.typeIn K (.ref (He.ga K "TooLong")) = some (.type "type")) && (He.eqO (PySem.W.nsIn K mainGlobals "Melted") (some (some (.ref (He.ga K "Melted")))) && (PySem.W.isClsIn K (He.ga K "Melted") && (decide (PySem.W.typeIn K (.ref (He.ga K "Melted")) = some (.type "type")) && (He.eqO (PySem.W.nsIn K mainGlobals "NothingToUndo") (some (some (.ref (He.ga K "NothingToUndo")))) && (PySem.W.isClsIn K (He.ga K "NothingToUndo") && (decide (PySem.W.typeIn K (.ref (He.ga K "NothingToUndo")) = some (.type "type")) && (He.eqO (PySem.W.nsIn K mainGlobals "NothingToRedo") (some (some (.ref (He.ga K "NothingToRedo")))) && (PySem.W.isClsIn K (He.ga K "NothingToRedo") && (decide (PySem.W.typeIn K (.ref (He.ga K "NothingToRedo")) = some (.type "type")))))))))))))))))))))
theorem hdT5 {K : PySem.W.Frag} (h : hdB5 K = true) : (PySem.W.isClsIn K (He.ga K "SameWord") = true) ∧ (PySem.W.typeIn K (.ref (He.ga K "SameWord")) = some (.type "type")) ∧ (PySem.W.nsIn K mainGlobals "UnknownClue" = some (some (.ref (He.ga K "UnknownClue")))) ∧ (PySem.W.isClsIn K (He.ga K "UnknownClue") = true) ∧ (PySem.W.typeIn K (.ref (He.ga K "UnknownClue")) = some (.type "type")) ∧ (PySem.W.nsIn K mainGlobals "BadPlace" = some (some (.ref (He.ga K "BadPlace")))) ∧ (PySem.W.isClsIn K (He.ga K "BadPlace") = true) ∧ (PySem.W.typeIn K (.ref (He.ga K "BadPlace")) = some (.type "type")) ∧ (PySem.W.nsIn K mainGlobals "TooLong" = some (some (.ref (He.ga K "TooLong")))) ∧ (PySem.W.isClsIn K (He.ga K "TooLong") = true) ∧ (PySem.W.typeIn K (.ref (He.ga K "TooLong")) = some (.type "type")) ∧ (PySem.W.nsIn K mainGlobals "Melted" = some (some (.ref (He.ga K "Melted")))) ∧ (PySem.W.isClsIn K (He.ga K "Melted") = true) ∧ (PySem.W.typeIn K (.ref (He.ga K "Melted")) = some (.type "type")) ∧ (PySem.W.nsIn K mainGlobals "NothingToUndo" = some (some (.ref (He.ga K "NothingToUndo")))) ∧ (PySem.W.isClsIn K (He.ga K "NothingToUndo") = true) ∧ (PySem.W.typeIn K (.ref (He.ga K "NothingToUndo")) = some (.type "type")) ∧ (PySem.W.nsIn K mainGlobals "NothingToRedo" = some (some (.ref (He.ga K "NothingToRedo")))) ∧ (PySem.W.isClsIn K (He.ga K "NothingToRedo") = true) ∧ (PySem.W.typeIn K (.ref (He.ga K "NothingToRedo")) = some (.type "type")) := by
  unfold hdB5 at h
  obtain ⟨h0, h⟩ := He.ba h
  obtain ⟨h1, h⟩ := He.ba h
  obtain ⟨h2, h⟩ := He.ba h
  obtain ⟨h3, h⟩ := He.ba h
  obtain ⟨h4, h⟩ := He.ba h
  obtain ⟨h5, h⟩ := He.ba h
  obtain ⟨h6, h⟩ := He.ba h
  obtain ⟨h7, h⟩ := He.ba h
  obtain ⟨h8, h⟩ := He.ba h
  obtain ⟨h9, h⟩ := He.ba h
  obtain ⟨h10, h⟩ := He.ba h
  obtain ⟨h11, h⟩ := He.ba h
  obtain ⟨h12, h⟩ := He.ba h
  obtain ⟨h13, h⟩ := He.ba h
  obtain ⟨h14, h⟩ := He.ba h
  obtain ⟨h15, h⟩ := He.ba h
  obtain ⟨h16, h⟩ := He.ba h
  obtain ⟨h17, h⟩ := He.ba h
  obtain ⟨h18, h⟩ := He.ba h
  exact ⟨h0, of_decide_eq_true h1, He.eqO_ok h2, h3, of_decide_eq_true h4, He.eqO_ok h5, h6, of_decide_eq_true h7, He.eqO_ok h8, h9, of_decide_eq_true h10, He.eqO_ok h11, h12, of_decide_eq_true h13, He.eqO_ok h14, h15, of_decide_eq_true h16, He.eqO_ok h17, h18, of_decide_eq_true h⟩
def hdB6 (K : PySem.W.Frag) : Bool := He.eqO (PySem.W.nsIn K mainGlobals "Refused") (some (some (.ref (He.ga K "Refused")))) && (PySem.W.isClsIn K (He.ga K "Refused") && (decide (PySem.W.typeIn K (.ref (He.ga K "Refused")) = some (.type "type")) && (He.eqO (PySem.W.nsIn K mainGlobals "BadLine") (some (some (.ref (He.ga K "BadLine")))) && (PySem.W.isClsIn K (He.ga K "BadLine") && (decide (PySem.W.typeIn K (.ref (He.ga K "BadLine")) = some (.type "type")) && (He.eqO (PySem.W.nsIn K cStatics "thirdparty.any") (some none) && (Hd.ecB K (He.ga K "BadPerson") && (He.eqO (PySem.W.findIn K (.ref (He.ga K "BadPerson")) "__setattr__") (some (some (.builtin "object.__setattr__"))) && (decide (PySem.W.subIn K (.ref (He.ga K "BadPerson")) (.type "BaseException") = some true) && (PySem.W.keepIn K (.ref (He.ga K "BadPerson")) && (decide (PySem.W.mroIn K (He.ga K "BadPerson") (.ref (He.ga K "BadPerson")) = some true) && (decide (PySem.W.subIn K (.ref (He.ga K "BadPerson")) (.type "ValueError") = some true) && (He.eqO (PySem.W.ks_superIn K (He.ga K "BadPerson") (He.ga K "BadPerson") "__init__") (some (some (.builtin "ValueError.__init__"))) && (He.eqO (PySem.W.findIn K (.ref (He.ga K "BadPerson")) "__init__") (some (some (.ref (He.ma K (He.ga K "BadPerson") "__init__")))) && (decide (PySem.W.typeIn K (.ref (He.ma K (He.ga K "BadPerson") "__init__")) = some (.type "function")) && (Hd.fileB K (Hd.codeOf K (He.ma K (He.ga K "BadPerson") "__init__")) (PySem.Challenge.rw_murmurline_k14_people_refused).prog.main.file && (Hd.cellB K (Hd.cellOf K (He.ma K (He.ga K "BadPerson") "__init__")) (He.ga K "BadPerson") && (He.eqO (PySem.W.findIn K (.ref (He.ga K "BadPerson")) "part") (some none) && (He.eqO (PySem.W.findIn K (.ref (He.ga K "BadPerson")) "__getattribute__") (some (some (.builtin "BaseException.__getattribute__"))))))))))))))))))))))
theorem hdT6 {K : PySem.W.Frag} (h : hdB6 K = true) : (PySem.W.nsIn K mainGlobals "Refused" = some (some (.ref (He.ga K "Refused")))) ∧ (PySem.W.isClsIn K (He.ga K "Refused") = true) ∧ (PySem.W.typeIn K (.ref (He.ga K "Refused")) = some (.type "type")) ∧ (PySem.W.nsIn K mainGlobals "BadLine" = some (some (.ref (He.ga K "BadLine")))) ∧ (PySem.W.isClsIn K (He.ga K "BadLine") = true) ∧ (PySem.W.typeIn K (.ref (He.ga K "BadLine")) = some (.type "type")) ∧ (PySem.W.nsIn K cStatics "thirdparty.any" = some none) ∧ (∃ nm q N bs bm sn sub ab col dd k0 k1 k2 k3 k5, K.lookup (He.ga K "BadPerson") = some (excClassObj nm q (He.ga K "BadPerson") N bs bm true sn sub ab col dd k0 k1 k2 k3 k5 "ValueError.__new__") ∧ PySem.HandSPX.refsVE bm = true) ∧ (PySem.W.findIn K (.ref (He.ga K "BadPerson")) "__setattr__" = some (some (.builtin "object.__setattr__"))) ∧ (PySem.W.subIn K (.ref (He.ga K "BadPerson")) (.type "BaseException") = some true) ∧ (PySem.W.keepIn K (.ref (He.ga K "BadPerson")) = true) ∧ (PySem.W.mroIn K (He.ga K "BadPerson") (.ref (He.ga K "BadPerson")) = some true) ∧ (PySem.W.subIn K (.ref (He.ga K "BadPerson")) (.type "ValueError") = some true) ∧ (PySem.W.ks_superIn K (He.ga K "BadPerson") (He.ga K "BadPerson") "__init__" = some (some (.builtin "ValueError.__init__"))) ∧ (PySem.W.findIn K (.ref (He.ga K "BadPerson")) "__init__" = some (some (.ref (He.ma K (He.ga K "BadPerson") "__init__")))) ∧ (PySem.W.typeIn K (.ref (He.ma K (He.ga K "BadPerson") "__init__")) = some (.type "function")) ∧ (∃ ek ew ev er ef eg, K.lookup (Hd.codeOf K (He.ma K (He.ga K "BadPerson") "__init__")) = some ⟨ek, ew, .fields ev, er⟩ ∧ ev[2]? = some (.str ef eg) ∧ (((PySem.Challenge.rw_murmurline_k14_people_refused).prog.main.file : Str) == ef) = true) ∧ (∃ el eu eq, K.lookup (Hd.cellOf K (He.ma K (He.ga K "BadPerson") "__init__")) = some ⟨el, eu, .cell (some (.ref (He.ga K "BadPerson"))), eq⟩) ∧ (PySem.W.findIn K (.ref (He.ga K "BadPerson")) "part" = some none) ∧ (PySem.W.findIn K (.ref (He.ga K "BadPerson")) "__getattribute__" = some (some (.builtin "BaseException.__getattribute__"))) := by
  unfold hdB6 at h
  obtain ⟨h0, h⟩ := He.ba h
  obtain ⟨h1, h⟩ := He.ba h
  obtain ⟨h2, h⟩ := He.ba h
  obtain ⟨h3, h⟩ := He.ba h
  obtain ⟨h4, h⟩ := He.ba h
  obtain ⟨h5, h⟩ := He.ba h
  obtain ⟨h6, h⟩ := He.ba h
  obtain ⟨h7, h⟩ := He.ba h
  obtain ⟨h8, h⟩ := He.ba h
  obtain ⟨h9, h⟩ := He.ba h
  obtain ⟨h10, h⟩ := He.ba h
  obtain ⟨h11, h⟩ := He.ba h
  obtain ⟨h12, h⟩ := He.ba h
  obtain ⟨h13, h⟩ := He.ba h
  obtain ⟨h14, h⟩ := He.ba h
  obtain ⟨h15, h⟩ := He.ba h
  obtain ⟨h16, h⟩ := He.ba h
  obtain ⟨h17, h⟩ := He.ba h
  obtain ⟨h18, h⟩ := He.ba h
  exact ⟨He.eqO_ok h0, h1, of_decide_eq_true h2, He.eqO_ok h3, h4, of_decide_eq_true h5, He.eqO_ok h6, Hd.ec_ok h7, He.eqO_ok h8, of_decide_eq_true h9, h10, of_decide_eq_true h11, of_decide_eq_true h12, He.eqO_ok h13, He.eqO_ok h14, of_decide_eq_true h15, Hd.file_ok h16, Hd.cell_ok h17, He.eqO_ok h18, He.eqO_ok h⟩
def hdB7 (K : PySem.W.Frag) : Bool := He.eqO (PySem.W.findIn K (.ref (He.ga K "BadPerson")) "__getattr__") (some none) && (PySem.W.hasDictIn K (He.ga K "BadPerson") && (He.eqO (PySem.W.findIn K (.ref (He.ga K "BadPerson")) "__class__") (some (some (.builtin "object.__class__"))) && (decide (PySem.W.mroIn K (He.ga K "BadPerson") (.type "object") = some true) && (decide (PySem.W.subIn K (.ref (He.ga K "BadPerson")) (.ref (He.ga K "MurmurError")) = some true) && (decide (PySem.W.subIn K (.ref (He.ga K "BadPerson")) (.ref (He.ga K "BadSize")) = some false) && (decide (PySem.W.subIn K (.ref (He.ga K "BadPerson")) (.ref (He.ga K "BadTable")) = some false) && (decide (PySem.W.subIn K (.ref (He.ga K "BadPerson")) (.ref (He.ga K "UnknownWord")) = some false) && (decide (PySem.W.subIn K (.ref (He.ga K "BadPerson")) (.ref (He.ga K "SizeMismatch")) = some false) && (decide (PySem.W.subIn K (.ref (He.ga K "BadPerson")) (.ref (He.ga K "BadCount")) = some false) && (decide (PySem.W.subIn K (.ref (He.ga K "BadPerson")) (.ref (He.ga K "BadPerson")) = some true) && (decide (PySem.W.subIn K (.ref (He.ga K "BadPerson")) (.ref (He.ga K "BadLetter")) = some false) && (decide (PySem.W.subIn K (.ref (He.ga K "BadPerson")) (.ref (He.ga K "UnknownPerson")) = some false) && (decide (PySem.W.subIn K (.ref (He.ga K "BadPerson")) (.ref (He.ga K "TooMany")) = some false) && (decide (PySem.W.subIn K (.ref (He.ga K "BadPerson")) (.ref (He.ga K "BadPattern")) = some false) && (decide (PySem.W.subIn K (.ref (He.ga K "BadPerson")) (.ref (He.ga K "SameWord")) = some false) && (decide (PySem.W.subIn K (.ref (He.ga K "BadPerson")) (.ref (He.ga K "UnknownClue")) = some false) && (decide (PySem.W.subIn K (.ref (He.ga K "BadPerson")) (.ref (He.ga K "BadPlace")) = some false) && (decide (PySem.W.subIn K (.ref (He.ga K "BadPerson")) (.ref (He.ga K "TooLong")) = some false) && (decide (PySem.W.subIn K (.ref (He.ga K "BadPerson")) (.ref (He.ga K "Melted")) = some false))))))))))))))))))))
theorem hdT7 {K : PySem.W.Frag} (h : hdB7 K = true) : (PySem.W.findIn K (.ref (He.ga K "BadPerson")) "__getattr__" = some none) ∧ (PySem.W.hasDictIn K (He.ga K "BadPerson") = true) ∧ (PySem.W.findIn K (.ref (He.ga K "BadPerson")) "__class__" = some (some (.builtin "object.__class__"))) ∧ (PySem.W.mroIn K (He.ga K "BadPerson") (.type "object") = some true) ∧ (PySem.W.subIn K (.ref (He.ga K "BadPerson")) (.ref (He.ga K "MurmurError")) = some true) ∧ (PySem.W.subIn K (.ref (He.ga K "BadPerson")) (.ref (He.ga K "BadSize")) = some false) ∧ (PySem.W.subIn K (.ref (He.ga K "BadPerson")) (.ref (He.ga K "BadTable")) = some false) ∧ (PySem.W.subIn K (.ref (He.ga K "BadPerson")) (.ref (He.ga K "UnknownWord")) = some false) ∧ (PySem.W.subIn K (.ref (He.ga K "BadPerson")) (.ref (He.ga K "SizeMismatch")) = some false) ∧ (PySem.W.subIn K (.ref (He.ga K "BadPerson")) (.ref (He.ga K "BadCount")) = some false) ∧ (PySem.W.subIn K (.ref (He.ga K "BadPerson")) (.ref (He.ga K "BadPerson")) = some true) ∧ (PySem.W.subIn K (.ref (He.ga K "BadPerson")) (.ref (He.ga K "BadLetter")) = some false) ∧ (PySem.W.subIn K (.ref (He.ga K "BadPerson")) (.ref (He.ga K "UnknownPerson")) = some false) ∧ (PySem.W.subIn K (.ref (He.ga K "BadPerson")) (.ref (He.ga K "TooMany")) = some false) ∧ (PySem.W.subIn K (.ref (He.ga K "BadPerson")) (.ref (He.ga K "BadPattern")) = some false) ∧ (PySem.W.subIn K (.ref (He.ga K "BadPerson")) (.ref (He.ga K "SameWord")) = some false) ∧ (PySem.W.subIn K (.ref (He.ga K "BadPerson")) (.ref (He.ga K "UnknownClue")) = some false) ∧ (PySem.W.subIn K (.ref (He.ga K "BadPerson")) (.ref (He.ga K "BadPlace")) = some false) ∧ (PySem.W.subIn K (.ref (He.ga K "BadPerson")) (.ref (He.ga K "TooLong")) = some false) ∧ (PySem.W.subIn K (.ref (He.ga K "BadPerson")) (.ref (He.ga K "Melted")) = some false) := by
  unfold hdB7 at h
  obtain ⟨h0, h⟩ := He.ba h
  obtain ⟨h1, h⟩ := He.ba h
  obtain ⟨h2, h⟩ := He.ba h
  obtain ⟨h3, h⟩ := He.ba h
  obtain ⟨h4, h⟩ := He.ba h
  obtain ⟨h5, h⟩ := He.ba h
  obtain ⟨h6, h⟩ := He.ba h
  obtain ⟨h7, h⟩ := He.ba h
  obtain ⟨h8, h⟩ := He.ba h
  obtain ⟨h9, h⟩ := He.ba h
  obtain ⟨h10, h⟩ := He.ba h
  obtain ⟨h11, h⟩ := He.ba h
  obtain ⟨h12, h⟩ := He.ba h
  obtain ⟨h13, h⟩ := He.ba h
  obtain ⟨h14, h⟩ := He.ba h
  obtain ⟨h15, h⟩ := He.ba h
  obtain ⟨h16, h⟩ := He.ba h
  obtain ⟨h17, h⟩ := He.ba h
  obtain ⟨h18, h⟩ := He.ba h
  exact ⟨He.eqO_ok h0, h1, He.eqO_ok h2, of_decide_eq_true h3, of_decide_eq_true h4, of_decide_eq_true h5, of_decide_eq_true h6, of_decide_eq_true h7, of_decide_eq_true h8, of_decide_eq_true h9, of_decide_eq_true h10, of_decide_eq_true h11, of_decide_eq_true h12, of_decide_eq_true h13, of_decide_eq_true h14, of_decide_eq_true h15, of_decide_eq_true h16, of_decide_eq_true h17, of_decide_eq_true h18, of_decide_eq_true h⟩
def hdB8 (K : PySem.W.Frag) : Bool := decide (PySem.W.subIn K (.ref (He.ga K "BadPerson")) (.ref (He.ga K "NothingToUndo")) = some false) && (decide (PySem.W.subIn K (.ref (He.ga K "BadPerson")) (.ref (He.ga K "NothingToRedo")) = some false) && (decide (PySem.W.subIn K (.ref (He.ga K "BadPerson")) (.ref (He.ga K "Refused")) = some false) && (decide (PySem.W.subIn K (.ref (He.ga K "BadPerson")) (.ref (He.ga K "BadLine")) = some false) && (He.eqO (PySem.W.nsIn K mainGlobals "Person") (some (some (.ref (He.ga K "Person")))) && (PySem.W.isClsIn K (He.ga K "Person") && (decide (PySem.W.typeIn K (.ref (He.ga K "Person")) = some (.type "type")) && (PySem.W.plainGet K (He.ga K "Person") Str.empty && (PySem.W.hasDictIn K (He.ga K "Person") && (PySem.W.plainOver K (He.ga K "Person") && (He.eqO (PySem.W.findIn K (.ref (He.ga K "Person")) "__setattr__") (some (some (.builtin "object.__setattr__"))) && (PySem.W.makesIn K (He.ga K "Person") && (PySem.W.keepIn K (.ref (He.ga K "Person")) && (He.eqO (PySem.W.findIn K (.ref (He.ga K "Person")) "__class__") (some (some (.builtin "object.__class__"))) && (decide (PySem.W.mroIn K (He.ga K "Person") (.type "object") = some true) && (decide (PySem.W.subIn K (.ref (He.ga K "Person")) (.ref (He.ga K "Person")) = some true) && (He.eqO (PySem.W.findIn K (.ref (He.ga K "Person")) "size") (some none) && (He.eqO (PySem.W.findIn K (.ref (He.ga K "Person")) "_hears") (some none) && (He.eqO (PySem.W.findIn K (.ref (He.ga K "Person")) "_says") (some none) && (He.eqO (PySem.W.nsIn K mainGlobals "Knower") (some (some (.ref (He.ga K "Knower")))))))))))))))))))))))
theorem hdT8 {K : PySem.W.Frag} (h : hdB8 K = true) : (PySem.W.subIn K (.ref (He.ga K "BadPerson")) (.ref (He.ga K "NothingToUndo")) = some false) ∧ (PySem.W.subIn K (.ref (He.ga K "BadPerson")) (.ref (He.ga K "NothingToRedo")) = some false) ∧ (PySem.W.subIn K (.ref (He.ga K "BadPerson")) (.ref (He.ga K "Refused")) = some false) ∧ (PySem.W.subIn K (.ref (He.ga K "BadPerson")) (.ref (He.ga K "BadLine")) = some false) ∧ (PySem.W.nsIn K mainGlobals "Person" = some (some (.ref (He.ga K "Person")))) ∧ (PySem.W.isClsIn K (He.ga K "Person") = true) ∧ (PySem.W.typeIn K (.ref (He.ga K "Person")) = some (.type "type")) ∧ (PySem.W.plainGet K (He.ga K "Person") Str.empty = true) ∧ (PySem.W.hasDictIn K (He.ga K "Person") = true) ∧ (PySem.W.plainOver K (He.ga K "Person") = true) ∧ (PySem.W.findIn K (.ref (He.ga K "Person")) "__setattr__" = some (some (.builtin "object.__setattr__"))) ∧ (PySem.W.makesIn K (He.ga K "Person") = true) ∧ (PySem.W.keepIn K (.ref (He.ga K "Person")) = true) ∧ (PySem.W.findIn K (.ref (He.ga K "Person")) "__class__" = some (some (.builtin "object.__class__"))) ∧ (PySem.W.mroIn K (He.ga K "Person") (.type "object") = some true) ∧ (PySem.W.subIn K (.ref (He.ga K "Person")) (.ref (He.ga K "Person")) = some true) ∧ (PySem.W.findIn K (.ref (He.ga K "Person")) "size" = some none) ∧ (PySem.W.findIn K (.ref (He.ga K "Person")) "_hears" = some none) ∧ (PySem.W.findIn K (.ref (He.ga K "Person")) "_says" = some none) ∧ (PySem.W.nsIn K mainGlobals "Knower" = some (some (.ref (He.ga K "Knower")))) := by
  unfold hdB8 at h
  obtain ⟨h0, h⟩ := He.ba h
  obtain ⟨h1, h⟩ := He.ba h
  obtain ⟨h2, h⟩ := He.ba h
  obtain ⟨h3, h⟩ := He.ba h
  obtain ⟨h4, h⟩ := He.ba h
  obtain ⟨h5, h⟩ := He.ba h
  obtain ⟨h6, h⟩ := He.ba h
  obtain ⟨h7, h⟩ := He.ba h
  obtain ⟨h8, h⟩ := He.ba h
  obtain ⟨h9, h⟩ := He.ba h
  obtain ⟨h10, h⟩ := He.ba h
  obtain ⟨h11, h⟩ := He.ba h
  obtain ⟨h12, h⟩ := He.ba h
  obtain ⟨h13, h⟩ := He.ba h
  obtain ⟨h14, h⟩ := He.ba h
  obtain ⟨h15, h⟩ := He.ba h
  obtain ⟨h16, h⟩ := He.ba h
  obtain ⟨h17, h⟩ := He.ba h
  obtain ⟨h18, h⟩ := He.ba h
  exact ⟨of_decide_eq_true h0, of_decide_eq_true h1, of_decide_eq_true h2, of_decide_eq_true h3, He.eqO_ok h4, h5, of_decide_eq_true h6, h7, h8, h9, He.eqO_ok h10, h11, h12, He.eqO_ok h13, of_decide_eq_true h14, of_decide_eq_true h15, He.eqO_ok h16, He.eqO_ok h17, He.eqO_ok h18, He.eqO_ok h⟩
def hdB9 (K : PySem.W.Frag) : Bool := PySem.W.isClsIn K (He.ga K "Knower") && (decide (PySem.W.typeIn K (.ref (He.ga K "Knower")) = some (.type "type")) && (PySem.W.plainGet K (He.ga K "Knower") Str.empty && (PySem.W.hasDictIn K (He.ga K "Knower") && (PySem.W.plainOver K (He.ga K "Knower") && (He.eqO (PySem.W.findIn K (.ref (He.ga K "Knower")) "__setattr__") (some (some (.builtin "object.__setattr__"))) && (PySem.W.makesIn K (He.ga K "Knower") && (PySem.W.keepIn K (.ref (He.ga K "Knower")) && (He.eqO (PySem.W.findIn K (.ref (He.ga K "Knower")) "__class__") (some (some (.builtin "object.__class__"))) && (decide (PySem.W.mroIn K (He.ga K "Knower") (.type "object") = some true) && (decide (PySem.W.subIn K (.ref (He.ga K "Knower")) (.ref (He.ga K "Knower")) = some true) && (He.eqO (PySem.W.findIn K (.ref (He.ga K "Knower")) "size") (some none) && (He.eqO (PySem.W.findIn K (.ref (He.ga K "Knower")) "_hears") (some none) && (He.eqO (PySem.W.findIn K (.ref (He.ga K "Knower")) "_says") (some none) && (He.eqO (PySem.W.findIn K (.ref (He.ga K "Knower")) "_known") (some none) && (He.eqO (PySem.W.nsIn K mainGlobals "Doubter") (some (some (.ref (He.ga K "Doubter")))) && (PySem.W.isClsIn K (He.ga K "Doubter") && (decide (PySem.W.typeIn K (.ref (He.ga K "Doubter")) = some (.type "type")) && (PySem.W.plainGet K (He.ga K "Doubter") Str.empty && (PySem.W.hasDictIn K (He.ga K "Doubter"))))))))))))))))))))
theorem hdT9 {K : PySem.W.Frag} (h : hdB9 K = true) : (PySem.W.isClsIn K (He.ga K "Knower") = true) ∧ (PySem.W.typeIn K (.ref (He.ga K "Knower")) = some (.type "type")) ∧ (PySem.W.plainGet K (He.ga K "Knower") Str.empty = true) ∧ (PySem.W.hasDictIn K (He.ga K "Knower") = true) ∧ (PySem.W.plainOver K (He.ga K "Knower") = true) ∧ (PySem.W.findIn K (.ref (He.ga K "Knower")) "__setattr__" = some (some (.builtin "object.__setattr__"))) ∧ (PySem.W.makesIn K (He.ga K "Knower") = true) ∧ (PySem.W.keepIn K (.ref (He.ga K "Knower")) = true) ∧ (PySem.W.findIn K (.ref (He.ga K "Knower")) "__class__" = some (some (.builtin "object.__class__"))) ∧ (PySem.W.mroIn K (He.ga K "Knower") (.type "object") = some true) ∧ (PySem.W.subIn K (.ref (He.ga K "Knower")) (.ref (He.ga K "Knower")) = some true) ∧ (PySem.W.findIn K (.ref (He.ga K "Knower")) "size" = some none) ∧ (PySem.W.findIn K (.ref (He.ga K "Knower")) "_hears" = some none) ∧ (PySem.W.findIn K (.ref (He.ga K "Knower")) "_says" = some none) ∧ (PySem.W.findIn K (.ref (He.ga K "Knower")) "_known" = some none) ∧ (PySem.W.nsIn K mainGlobals "Doubter" = some (some (.ref (He.ga K "Doubter")))) ∧ (PySem.W.isClsIn K (He.ga K "Doubter") = true) ∧ (PySem.W.typeIn K (.ref (He.ga K "Doubter")) = some (.type "type")) ∧ (PySem.W.plainGet K (He.ga K "Doubter") Str.empty = true) ∧ (PySem.W.hasDictIn K (He.ga K "Doubter") = true) := by
  unfold hdB9 at h
  obtain ⟨h0, h⟩ := He.ba h
  obtain ⟨h1, h⟩ := He.ba h
  obtain ⟨h2, h⟩ := He.ba h
  obtain ⟨h3, h⟩ := He.ba h
  obtain ⟨h4, h⟩ := He.ba h
  obtain ⟨h5, h⟩ := He.ba h
  obtain ⟨h6, h⟩ := He.ba h
  obtain ⟨h7, h⟩ := He.ba h
  obtain ⟨h8, h⟩ := He.ba h
  obtain ⟨h9, h⟩ := He.ba h
  obtain ⟨h10, h⟩ := He.ba h
  obtain ⟨h11, h⟩ := He.ba h
  obtain ⟨h12, h⟩ := He.ba h
  obtain ⟨h13, h⟩ := He.ba h
  obtain ⟨h14, h⟩ := He.ba h
  obtain ⟨h15, h⟩ := He.ba h
  obtain ⟨h16, h⟩ := He.ba h
  obtain ⟨h17, h⟩ := He.ba h
  obtain ⟨h18, h⟩ := He.ba h
  exact ⟨h0, of_decide_eq_true h1, h2, h3, h4, He.eqO_ok h5, h6, h7, He.eqO_ok h8, of_decide_eq_true h9, of_decide_eq_true h10, He.eqO_ok h11, He.eqO_ok h12, He.eqO_ok h13, He.eqO_ok h14, He.eqO_ok h15, h16, of_decide_eq_true h17, h18, h⟩
def hdB10 (K : PySem.W.Frag) : Bool := PySem.W.plainOver K (He.ga K "Doubter") && (He.eqO (PySem.W.findIn K (.ref (He.ga K "Doubter")) "__setattr__") (some (some (.builtin "object.__setattr__"))) && (PySem.W.makesIn K (He.ga K "Doubter") && (PySem.W.keepIn K (.ref (He.ga K "Doubter")) && (He.eqO (PySem.W.findIn K (.ref (He.ga K "Doubter")) "__class__") (some (some (.builtin "object.__class__"))) && (decide (PySem.W.mroIn K (He.ga K "Doubter") (.type "object") = some true) && (decide (PySem.W.subIn K (.ref (He.ga K "Doubter")) (.ref (He.ga K "Doubter")) = some true) && (He.eqO (PySem.W.findIn K (.ref (He.ga K "Doubter")) "size") (some none) && (He.eqO (PySem.W.findIn K (.ref (He.ga K "Doubter")) "_hears") (some none) && (He.eqO (PySem.W.findIn K (.ref (He.ga K "Doubter")) "_says") (some none) && (He.eqO (PySem.W.nsIn K mainGlobals "KnowingDoubter") (some (some (.ref (He.ga K "KnowingDoubter")))) && (PySem.W.isClsIn K (He.ga K "KnowingDoubter") && (decide (PySem.W.typeIn K (.ref (He.ga K "KnowingDoubter")) = some (.type "type")) && (PySem.W.plainGet K (He.ga K "KnowingDoubter") Str.empty && (PySem.W.hasDictIn K (He.ga K "KnowingDoubter") && (PySem.W.plainOver K (He.ga K "KnowingDoubter") && (He.eqO (PySem.W.findIn K (.ref (He.ga K "KnowingDoubter")) "__setattr__") (some (some (.builtin "object.__setattr__"))) && (PySem.W.makesIn K (He.ga K "KnowingDoubter") && (PySem.W.keepIn K (.ref (He.ga K "KnowingDoubter")) && (He.eqO (PySem.W.findIn K (.ref (He.ga K "KnowingDoubter")) "__class__") (some (some (.builtin "object.__class__"))))))))))))))))))))))
theorem hdT10 {K : PySem.W.Frag} (h : hdB10 K = true) : (PySem.W.plainOver K (He.ga K "Doubter") = true) ∧ (PySem.W.findIn K (.ref (He.ga K "Doubter")) "__setattr__" = some (some (.builtin "object.__setattr__"))) ∧ (PySem.W.makesIn K (He.ga K "Doubter") = true) ∧ (PySem.W.keepIn K (.ref (He.ga K "Doubter")) = true) ∧ (PySem.W.findIn K (.ref (He.ga K "Doubter")) "__class__" = some (some (.builtin "object.__class__"))) ∧ (PySem.W.mroIn K (He.ga K "Doubter") (.type "object") = some true) ∧ (PySem.W.subIn K (.ref (He.ga K "Doubter")) (.ref (He.ga K "Doubter")) = some true) ∧ (PySem.W.findIn K (.ref (He.ga K "Doubter")) "size" = some none) ∧ (PySem.W.findIn K (.ref (He.ga K "Doubter")) "_hears" = some none) ∧ (PySem.W.findIn K (.ref (He.ga K "Doubter")) "_says" = some none) ∧ (PySem.W.nsIn K mainGlobals "KnowingDoubter" = some (some (.ref (He.ga K "KnowingDoubter")))) ∧ (PySem.W.isClsIn K (He.ga K "KnowingDoubter") = true) ∧ (PySem.W.typeIn K (.ref (He.ga K "KnowingDoubter")) = some (.type "type")) ∧ (PySem.W.plainGet K (He.ga K "KnowingDoubter") Str.empty = true) ∧ (PySem.W.hasDictIn K (He.ga K "KnowingDoubter") = true) ∧ (PySem.W.plainOver K (He.ga K "KnowingDoubter") = true) ∧ (PySem.W.findIn K (.ref (He.ga K "KnowingDoubter")) "__setattr__" = some (some (.builtin "object.__setattr__"))) ∧ (PySem.W.makesIn K (He.ga K "KnowingDoubter") = true) ∧ (PySem.W.keepIn K (.ref (He.ga K "KnowingDoubter")) = true) ∧ (PySem.W.findIn K (.ref (He.ga K "KnowingDoubter")) "__class__" = some (some (.builtin "object.__class__"))) := by
  unfold hdB10 at h
  obtain ⟨h0, h⟩ := He.ba h
  obtain ⟨h1, h⟩ := He.ba h
  obtain ⟨h2, h⟩ := He.ba h
  obtain ⟨h3, h⟩ := He.ba h
  obtain ⟨h4, h⟩ := He.ba h
  obtain ⟨h5, h⟩ := He.ba h
  obtain ⟨h6, h⟩ := He.ba h
  obtain ⟨h7, h⟩ := He.ba h
  obtain ⟨h8, h⟩ := He.ba h
  obtain ⟨h9, h⟩ := He.ba h
  obtain ⟨h10, h⟩ := He.ba h
  obtain ⟨h11, h⟩ := He.ba h
  obtain ⟨h12, h⟩ := He.ba h
  obtain ⟨h13, h⟩ := He.ba h
  obtain ⟨h14, h⟩ := He.ba h
  obtain ⟨h15, h⟩ := He.ba h
  obtain ⟨h16, h⟩ := He.ba h
  obtain ⟨h17, h⟩ := He.ba h
  obtain ⟨h18, h⟩ := He.ba h
  exact ⟨h0, He.eqO_ok h1, h2, h3, He.eqO_ok h4, of_decide_eq_true h5, of_decide_eq_true h6, He.eqO_ok h7, He.eqO_ok h8, He.eqO_ok h9, He.eqO_ok h10, h11, of_decide_eq_true h12, h13, h14, h15, He.eqO_ok h16, h17, h18, He.eqO_ok h⟩
def hdB11 (K : PySem.W.Frag) : Bool := decide (PySem.W.mroIn K (He.ga K "KnowingDoubter") (.type "object") = some true) && (decide (PySem.W.subIn K (.ref (He.ga K "KnowingDoubter")) (.ref (He.ga K "KnowingDoubter")) = some true) && (He.eqO (PySem.W.findIn K (.ref (He.ga K "KnowingDoubter")) "size") (some none) && (He.eqO (PySem.W.findIn K (.ref (He.ga K "KnowingDoubter")) "_hears") (some none) && (He.eqO (PySem.W.findIn K (.ref (He.ga K "KnowingDoubter")) "_says") (some none) && (He.eqO (PySem.W.findIn K (.ref (He.ga K "KnowingDoubter")) "_known") (some none) && (Hd.fileB K (Hd.codeOf K (He.ma K (He.ga K "Knower") "__init__")) (PySem.Challenge.rw_murmurline_k14_people_refused).prog.main.file && (Hd.cellB K (Hd.cellOf K (He.ma K (He.ga K "Knower") "__init__")) (He.ga K "Knower") && ((PySem.W.clsIn K (He.ga K "Knower")).isSome && (PySem.W.isFn K (.ref (He.ma K (He.ga K "Knower") "__init__")) && (PySem.W.keepIn K (.ref (He.ma K (He.ga K "Knower") "__init__")) && (decide (PySem.W.typeIn K (.ref (He.ma K (He.ga K "Knower") "__init__")) = some (.type "function")) && (PySem.W.fnIn K (He.ma K (He.ga K "Knower") "__init__") && (decide (PySem.W.mroIn K (He.ga K "Knower") (.ref (He.ga K "Knower")) = some true) && (He.eqO (PySem.W.ks_superIn K (He.ga K "Knower") (He.ga K "Knower") "__init__") (some (some (.ref (He.ma K (He.ga K "Person") "__init__")))) && (decide (PySem.W.mroIn K (He.ga K "KnowingDoubter") (.ref (He.ga K "Knower")) = some true) && (He.eqO (PySem.W.ks_superIn K (He.ga K "KnowingDoubter") (He.ga K "Knower") "__init__") (some (some (.ref (He.ma K (He.ga K "Person") "__init__")))) && (He.eqO (PySem.W.findIn K (.ref (He.ga K "Person")) "__init__") (some (some (.ref (He.ma K (He.ga K "Person") "__init__")))) && (He.eqO (PySem.W.findIn K (.ref (He.ga K "Knower")) "__init__") (some (some (.ref (He.ma K (He.ga K "Knower") "__init__")))) && (He.eqO (PySem.W.findIn K (.ref (He.ga K "Doubter")) "__init__") (some (some (.ref (He.ma K (He.ga K "Person") "__init__")))) && (He.eqO (PySem.W.findIn K (.ref (He.ga K "KnowingDoubter")) "__init__") (some (some (.ref (He.ma K (He.ga K "Knower") "__init__"))))))))))))))))))))))))
theorem hdT11 {K : PySem.W.Frag} (h : hdB11 K = true) : (PySem.W.mroIn K (He.ga K "KnowingDoubter") (.type "object") = some true) ∧ (PySem.W.subIn K (.ref (He.ga K "KnowingDoubter")) (.ref (He.ga K "KnowingDoubter")) = some true) ∧ (PySem.W.findIn K (.ref (He.ga K "KnowingDoubter")) "size" = some none) ∧ (PySem.W.findIn K (.ref (He.ga K "KnowingDoubter")) "_hears" = some none) ∧ (PySem.W.findIn K (.ref (He.ga K "KnowingDoubter")) "_says" = some none) ∧ (PySem.W.findIn K (.ref (He.ga K "KnowingDoubter")) "_known" = some none) ∧ (∃ ek ew ev er ef eg, K.lookup (Hd.codeOf K (He.ma K (He.ga K "Knower") "__init__")) = some ⟨ek, ew, .fields ev, er⟩ ∧ ev[2]? = some (.str ef eg) ∧ (((PySem.Challenge.rw_murmurline_k14_people_refused).prog.main.file : Str) == ef) = true) ∧ (∃ el eu eq, K.lookup (Hd.cellOf K (He.ma K (He.ga K "Knower") "__init__")) = some ⟨el, eu, .cell (some (.ref (He.ga K "Knower"))), eq⟩) ∧ ((PySem.W.clsIn K (He.ga K "Knower")).isSome = true) ∧ (PySem.W.isFn K (.ref (He.ma K (He.ga K "Knower") "__init__")) = true) ∧ (PySem.W.keepIn K (.ref (He.ma K (He.ga K "Knower") "__init__")) = true) ∧ (PySem.W.typeIn K (.ref (He.ma K (He.ga K "Knower") "__init__")) = some (.type "function")) ∧ (PySem.W.fnIn K (He.ma K (He.ga K "Knower") "__init__") = true) ∧ (PySem.W.mroIn K (He.ga K "Knower") (.ref (He.ga K "Knower")) = some true) ∧ (PySem.W.ks_superIn K (He.ga K "Knower") (He.ga K "Knower") "__init__" = some (some (.ref (He.ma K (He.ga K "Person") "__init__")))) ∧ (PySem.W.mroIn K (He.ga K "KnowingDoubter") (.ref (He.ga K "Knower")) = some true) ∧ (PySem.W.ks_superIn K (He.ga K "KnowingDoubter") (He.ga K "Knower") "__init__" = some (some (.ref (He.ma K (He.ga K "Person") "__init__")))) ∧ (PySem.W.findIn K (.ref (He.ga K "Person")) "__init__" = some (some (.ref (He.ma K (He.ga K "Person") "__init__")))) ∧ (PySem.W.findIn K (.ref (He.ga K "Knower")) "__init__" = some (some (.ref (He.ma K (He.ga K "Knower") "__init__")))) ∧ (PySem.W.findIn K (.ref (He.ga K "Doubter")) "__init__" = some (some (.ref (He.ma K (He.ga K "Person") "__init__")))) ∧ (PySem.W.findIn K (.ref (He.ga K "KnowingDoubter")) "__init__" = some (some (.ref (He.ma K (He.ga K "Knower") "__init__")))) := by
  unfold hdB11 at h
  obtain ⟨h0, h⟩ := He.ba h
  obtain ⟨h1, h⟩ := He.ba h
  obtain ⟨h2, h⟩ := He.ba h
  obtain ⟨h3, h⟩ := He.ba h
  obtain ⟨h4, h⟩ := He.ba h
  obtain ⟨h5, h⟩ := He.ba h
  obtain ⟨h6, h⟩ := He.ba h
  obtain ⟨h7, h⟩ := He.ba h
  obtain ⟨h8, h⟩ := He.ba h
  obtain ⟨h9, h⟩ := He.ba h
  obtain ⟨h10, h⟩ := He.ba h
  obtain ⟨h11, h⟩ := He.ba h
  obtain ⟨h12, h⟩ := He.ba h
  obtain ⟨h13, h⟩ := He.ba h
  obtain ⟨h14, h⟩ := He.ba h
  obtain ⟨h15, h⟩ := He.ba h
  obtain ⟨h16, h⟩ := He.ba h
  obtain ⟨h17, h⟩ := He.ba h
  obtain ⟨h18, h⟩ := He.ba h
  obtain ⟨h19, h⟩ := He.ba h
  exact ⟨of_decide_eq_true h0, of_decide_eq_true h1, He.eqO_ok h2, He.eqO_ok h3, He.eqO_ok h4, He.eqO_ok h5, Hd.file_ok h6, Hd.cell_ok h7, h8, h9, h10, of_decide_eq_true h11, h12, of_decide_eq_true h13, He.eqO_ok h14, of_decide_eq_true h15, He.eqO_ok h16, He.eqO_ok h17, He.eqO_ok h18, He.eqO_ok h19, He.eqO_ok h⟩
def hdB (K : PySem.W.Frag) : Bool := hdB0 K && (hdB1 K && (hdB2 K && (hdB3 K && (hdB4 K && (hdB5 K && (hdB6 K && (hdB7 K && (hdB8 K && (hdB9 K && (hdB10 K && (hdB11 K)))))))))))
def hdF0 : Hd.FnX := ⟨fun K => (He.ga K "is_word"), "is_word", "is_word", defArgs sIsWord, defBody sIsWord, defScope sIsWord, false⟩
def hdF1 : Hd.FnX := ⟨fun K => (He.ga K "all_words"), "all_words", "all_words", defArgs sAllWords, defBody sAllWords, defScope sAllWords, false⟩
def hdF2 : Hd.FnX := ⟨fun K => (He.ga K "is_size"), "is_size", "is_size", defArgs sIsSize, defBody sIsSize, defScope sIsSize, false⟩
def hdF3 : Hd.FnX := ⟨fun K => (He.ga K "check_size"), "check_size", "check_size", defArgs sCheckSize, defBody sCheckSize, defScope sCheckSize, false⟩
def hdF4 : Hd.FnX := ⟨fun K => (He.ga K "check_word"), "check_word", "check_word", defArgs sCheckWord, defBody sCheckWord, defScope sCheckWord, false⟩
def hdF5 : Hd.FnX := ⟨fun K => (He.ga K "ascending"), "ascending", "ascending", defArgs sAsc, defBody sAsc, defScope sAsc, false⟩
def hdF6 : Hd.FnX := ⟨fun K => (He.ga K "_law_box"), "_law_box", "_law_box", defArgs sBox, defBody sBox, defScope sBox, false⟩
def hdF7 : Hd.FnX := ⟨fun K => (He.ga K "_law_take"), "_law_take", "_law_take", defArgs sTake, defBody sTake, defScope sTake, false⟩
def hdF8 : Hd.FnX := ⟨fun K => (He.ga K "_law_words"), "_law_words", "_law_words", defArgs sWords, defBody sWords, defScope sWords, false⟩
def hdF9 : Hd.FnX := ⟨fun K => (He.ga K "_law_single"), "_law_single", "_law_single", defArgs sSingle, defBody sSingle, defScope sSingle, false⟩
def hdF10 : Hd.FnX := ⟨fun K => (He.ga K "_law_far"), "_law_far", "_law_far", defArgs sFar, defBody sFar, defScope sFar, false⟩
def hdF11 : Hd.FnX := ⟨fun K => (He.ma K (He.ga K "Person") "__init__"), "__init__", "Person.__init__", defArgs sPInit, defBody sPInit, defScope sPInit, false⟩
def hdF12 : Hd.FnX := ⟨fun K => (He.ga K "_law_outs"), "_law_outs", "_law_outs", defArgs sOuts, defBody sOuts, defScope sOuts, false⟩
def hdF13 : Hd.FnX := ⟨fun K => (He.ga K "_law_person"), "_law_person", "_law_person", defArgs sPersonL, defBody sPersonL, defScope sPersonL, false⟩
def hdF14 : Hd.FnX := ⟨fun K => (He.ga K "_law_person_error"), "_law_person_error", "_law_person_error", defArgs sPErr, defBody sPErr, defScope sPErr, false⟩
def hdF15 : Hd.FnX := ⟨fun K => (He.ga K "law"), "law", "law", defArgs sLaw, defBody sLaw, defScope sLaw, false⟩
def hdF16 : Hd.FnX := ⟨fun K => (He.ma K (He.ga K "BadPerson") "__init__"), "__init__", "BadPerson.__init__", defArgs sBadPersonI, defBody sBadPersonI, defScope sBadPersonI, true⟩
def hdF17 : Hd.FnX := ⟨fun K => (He.ma K (He.ga K "Knower") "__init__"), "__init__", "Knower.__init__", defArgs sKInit, defBody sKInit, defScope sKInit, true⟩
def hdF : List Hd.FnX := [hdF0, hdF1, hdF2, hdF3, hdF4, hdF5, hdF6, hdF7, hdF8, hdF9, hdF10, hdF11, hdF12, hdF13, hdF14, hdF15, hdF16, hdF17]
abbrev hdR : PySem.W.OpenRow := PySem.W.OpenLaw.row PySem.Challenge.rw_murmurline_k14_people_refused
def hdAs (g : Addr → Option Obj) : List Addr := Hd.reach g ["Table", "MurmurError", "BadSize", "BadTable", "UnknownWord", "SizeMismatch", "BadCount", "BadPerson", "BadLetter", "UnknownPerson", "TooMany", "BadPattern", "SameWord", "UnknownClue", "BadPlace", "TooLong", "Melted", "NothingToUndo", "NothingToRedo", "Refused", "BadLine", "Person", "Knower", "Doubter", "KnowingDoubter"] ["is_word", "all_words", "is_size", "check_size", "check_word", "ascending", "_law_box", "_law_take", "_law_words", "_law_single", "_law_far", "_law_outs", "_law_person", "_law_person_error", "law"] [("Person", ["__init__"]), ("BadPerson", ["__init__"]), ("Knower", ["__init__"])]
abbrev hdH : PySem.W.Hook := Hd.hookB hdAs hdB hdF
def hdO (s : PySem.W.SharedT) : Hd.AlB := Hd.obsBG hdAs hdB hdF (HandSHeadRun.getT s)
theorem hdO_eq (s : PySem.W.SharedT) : hdO s = hdH.obs s.abs := Hd.obsBG_eq (HandSHeadRun.getT_eq s)
def hdN0 : List PySem.Str := ["_wall", "MurmurError", "BadSize", "BadTable", "UnknownWord", "SizeMismatch", "BadCount", "BadPerson", "BadLetter", "UnknownPerson", "TooMany", "BadPattern", "SameWord", "UnknownClue", "BadPlace", "TooLong", "Melted", "NothingToUndo", "NothingToRedo", "Refused", "BadLine", "is_size", "check_size", "check_same_size", "is_word", "all_words", "check_word", "check_words", "ascending", "Table"]
def hdN1 : List PySem.Str := ["Person", "Knower", "Doubter", "KnowingDoubter", "_law_single", "_law_box", "_law_take", "_law_words", "_law_outs", "_law_person", "_law_far", "_law_person_error"]
def hdN : List PySem.Str := hdN0 ++ hdN1
set_option maxHeartbeats 0 in
theorem hd_run (w : World) : HandSHeadRun.RunEq hdR (PySem.W.view hdR.prog [46]) hdH hdO 12000 hdN w := by
  intro os
  kernel_rfl
theorem hd_facts {w : World} {K : PySem.W.Frag} {h : Heap} {mg : Str → Option Value} {fa : Addr} (X : K.In h) (G : h.Ns mainGlobals mg) (hfa : mg "law" = some (.ref fa)) (c : Hd.SaysB hdB hdF K) :
    ∃ fd : FuncData, (∀ (s : Shared) (v : Value), BindsTo s fd ⟨[v], []⟩ [("_law_script", v)]) ∧ ∀ base : Heap, K.In base → base.Ns mainGlobals mg → FnOk (PySem.Challenge.rw_murmurline_k14_people_refused).prog w K mg base CX0 8 fa fd ["_law_script"] (spLaw K) := by
  have cB := c.bool
  unfold hdB at cB
  obtain ⟨cB0, cB⟩ := He.ba cB
  obtain ⟨aC, a1, k1, a2, k2, a3, k3, a4, k4, a5, k5, a6, k6, a7, k7, a8, k8, a9, k9, a10⟩ := hdT0 cB0
  obtain ⟨cB1, cB⟩ := He.ba cB
  obtain ⟨k10, a11, k11, i12, n12, y12, k12, a13, k13, a14, k14, a15, k15, a16, k16, pg, hd, po, sa, mk⟩ := hdT1 cB1
  obtain ⟨cB2, cB⟩ := He.ba cB
  obtain ⟨kc, nS, nR, nP, rd, rg, ms, ia, ic, it, im, sf, nf, z_len, z_range, z_all, z_list, z_tuple, z_enumerate, z_isinstance⟩ := hdT2 cB2
  obtain ⟨cB3, cB⟩ := He.ba cB
  obtain ⟨z_int, z_bool, z_str, z_abs, z_ValueError, z_super, gM, bM, tM_, g0_, b0_, t0_, g1_, b1_, t1_, g2_, b2_, t2_, g3_, b3_⟩ := hdT3 cB3
  obtain ⟨cB4, cB⟩ := He.ba cB
  obtain ⟨t3_, g4_, b4_, t4_, g5_, b5_, t5_, g6_, b6_, t6_, g7_, b7_, t7_, g8_, b8_, t8_, g9_, b9_, t9_, g10_⟩ := hdT4 cB4
  obtain ⟨cB5, cB⟩ := He.ba cB
  obtain ⟨b10_, t10_, g11_, b11_, t11_, g12_, b12_, t12_, g13_, b13_, t13_, g14_, b14_, t14_, g15_, b15_, t15_, g16_, b16_, t16_⟩ := hdT5 cB5
  obtain ⟨cB6, cB⟩ := He.ba cB
  obtain ⟨g17_, b17_, t17_, g18_, b18_, t18_, stn, lC5, sa5, ex5, kC5, se5, vE5, al5, iI5, tI5, lc5, ce5, no5_0, xg5⟩ := hdT6 cB6
  obtain ⟨cB7, cB⟩ := He.ba cB
  obtain ⟨xk5, xd5, xa5, xm5, sM5, s5_0, s5_1, s5_2, s5_3, s5_4, s5_5, s5_6, s5_7, s5_8, s5_9, s5_10, s5_11, s5_12, s5_13, s5_14⟩ := hdT7 cB7
  obtain ⟨cB8, cB⟩ := He.ba cB
  obtain ⟨s5_15, s5_16, s5_17, s5_18, aX_Cp, bX_Cp, tX_Cp, pgX_Cp, hdX_Cp, poX_Cp, saX_Cp, mkX_Cp, kcX_Cp, iaX_Cp, imX_Cp, seX_Cp, nsizeX_Cp, n_hearsX_Cp, n_saysX_Cp, aX_Ck⟩ := hdT8 cB8
  obtain ⟨cB9, cB⟩ := He.ba cB
  obtain ⟨bX_Ck, tX_Ck, pgX_Ck, hdX_Ck, poX_Ck, saX_Ck, mkX_Ck, kcX_Ck, iaX_Ck, imX_Ck, seX_Ck, nsizeX_Ck, n_hearsX_Ck, n_saysX_Ck, n_knownX_Ck, aX_Cd, bX_Cd, tX_Cd, pgX_Cd, hdX_Cd⟩ := hdT9 cB9
  obtain ⟨cB10, cB⟩ := He.ba cB
  obtain ⟨poX_Cd, saX_Cd, mkX_Cd, kcX_Cd, iaX_Cd, imX_Cd, seX_Cd, nsizeX_Cd, n_hearsX_Cd, n_saysX_Cd, aX_Cb, bX_Cb, tX_Cb, pgX_Cb, hdX_Cb, poX_Cb, saX_Cb, mkX_Cb, kcX_Cb, iaX_Cb⟩ := hdT10 cB10
  obtain ⟨imX_Cb, seX_Cb, nsizeX_Cb, n_hearsX_Cb, n_saysX_Cb, n_knownX_Cb, lc101, ce101, cx101, is101, kp101, ty101, fn101, nx1s, nx1a, nx2s, nx2a, at_init_Cp, at_init_Ck, at_init_Cd, at_init_Cb⟩ := hdT11 cB
  obtain ⟨oc1, od1, sl1, kV1, dc1, pm1, an1, cd1, ct1, l1, c1⟩ := Hd.fnx_plain (c.def_ 0 (d := hdF0) rfl).1 (c.def_ 0 (d := hdF0) rfl).2
  obtain ⟨oc2, od2, sl2, kV2, dc2, pm2, an2, cd2, ct2, l2, c2⟩ := Hd.fnx_plain (c.def_ 1 (d := hdF1) rfl).1 (c.def_ 1 (d := hdF1) rfl).2
  obtain ⟨oc3, od3, sl3, kV3, dc3, pm3, an3, cd3, ct3, l3, c3⟩ := Hd.fnx_plain (c.def_ 2 (d := hdF2) rfl).1 (c.def_ 2 (d := hdF2) rfl).2
  obtain ⟨oc4, od4, sl4, kV4, dc4, pm4, an4, cd4, ct4, l4, c4⟩ := Hd.fnx_plain (c.def_ 3 (d := hdF3) rfl).1 (c.def_ 3 (d := hdF3) rfl).2
  obtain ⟨oc5, od5, sl5, kV5, dc5, pm5, an5, cd5, ct5, l5, c5⟩ := Hd.fnx_plain (c.def_ 4 (d := hdF4) rfl).1 (c.def_ 4 (d := hdF4) rfl).2
  obtain ⟨oc6, od6, sl6, kV6, dc6, pm6, an6, cd6, ct6, l6, c6⟩ := Hd.fnx_plain (c.def_ 5 (d := hdF5) rfl).1 (c.def_ 5 (d := hdF5) rfl).2
  obtain ⟨oc7, od7, sl7, kV7, dc7, pm7, an7, cd7, ct7, l7, c7⟩ := Hd.fnx_plain (c.def_ 6 (d := hdF6) rfl).1 (c.def_ 6 (d := hdF6) rfl).2
  obtain ⟨oc8, od8, sl8, kV8, dc8, pm8, an8, cd8, ct8, l8, c8⟩ := Hd.fnx_plain (c.def_ 7 (d := hdF7) rfl).1 (c.def_ 7 (d := hdF7) rfl).2
  obtain ⟨oc9, od9, sl9, kV9, dc9, pm9, an9, cd9, ct9, l9, c9⟩ := Hd.fnx_plain (c.def_ 8 (d := hdF8) rfl).1 (c.def_ 8 (d := hdF8) rfl).2
  obtain ⟨oc10, od10, sl10, kV10, dc10, pm10, an10, cd10, ct10, l10, c10⟩ := Hd.fnx_plain (c.def_ 9 (d := hdF9) rfl).1 (c.def_ 9 (d := hdF9) rfl).2
  obtain ⟨oc11, od11, sl11, kV11, dc11, pm11, an11, cd11, ct11, l11, c11⟩ := Hd.fnx_plain (c.def_ 10 (d := hdF10) rfl).1 (c.def_ 10 (d := hdF10) rfl).2
  obtain ⟨oc12, od12, sl12, kV12, dc12, pm12, an12, cd12, ct12, l12, c12⟩ := Hd.fnx_plain (c.def_ 11 (d := hdF11) rfl).1 (c.def_ 11 (d := hdF11) rfl).2
  obtain ⟨oc13, od13, sl13, kV13, dc13, pm13, an13, cd13, ct13, l13, c13⟩ := Hd.fnx_plain (c.def_ 12 (d := hdF12) rfl).1 (c.def_ 12 (d := hdF12) rfl).2
  obtain ⟨oc14, od14, sl14, kV14, dc14, pm14, an14, cd14, ct14, l14, c14⟩ := Hd.fnx_plain (c.def_ 13 (d := hdF13) rfl).1 (c.def_ 13 (d := hdF13) rfl).2
  obtain ⟨oc15, od15, sl15, kV15, dc15, pm15, an15, cd15, ct15, l15, c15⟩ := Hd.fnx_plain (c.def_ 14 (d := hdF14) rfl).1 (c.def_ 14 (d := hdF14) rfl).2
  obtain ⟨oc16, od16, sl16, kV16, dc16, pm16, an16, cd16, ct16, l16, c16⟩ := Hd.fnx_plain (c.def_ 15 (d := hdF15) rfl).1 (c.def_ 15 (d := hdF15) rfl).2
  obtain ⟨tM, ms⟩ := ms
  obtain ⟨nm5, q5, N5, bs5, bm5, sn5, su5, ab5, co5, dd5, x5, y5, u5, v5, w5, lC5, rV5⟩ := lC5
  obtain ⟨eo5, ey5, es5, eV5, ed5, ep5, ez5, et5, lk5, cd5_⟩ := Hd.fnx_sup (c.def_ 16 (d := hdF16) rfl).1 (c.def_ 16 (d := hdF16) rfl).2
  obtain ⟨ek5, ew5, ev5, er5, ef5, eg5, lc5, vs5, fl5⟩ := lc5
  obtain ⟨el5, eu5, eq5, ce5⟩ := ce5
  obtain ⟨eo101, ey101, es101, eV101, ed101, ep101, ez101, et101, lk101, cd101_⟩ := Hd.fnx_sup (c.def_ 17 (d := hdF17) rfl).1 (c.def_ 17 (d := hdF17) rfl).2
  obtain ⟨ek101, ew101, ev101, er101, ef101, eg101, lc101, vs101, fl101⟩ := lc101
  obtain ⟨el101, eu101, eq101, ce101⟩ := ce101
  exact all_mk (l := PySem.Challenge.rw_murmurline_k14_people_refused) X G hfa aC a1 l1 c1 k1 a2 l2 c2 k2 a3 l3 c3 k3 a4 l4 c4 k4 a5 l5 c5 k5 a6 l6 c6 k6 a7 l7 c7 k7 a8 l8 c8 k8 a9 l9 c9 k9 a10 l10 c10 k10 a11 l11 c11 k11 i12 n12 y12 l12 c12 k12 a13 l13 c13 k13 a14 l14 c14 k14 a15 l15 c15 k15 a16 l16 c16 k16 pg hd po sa mk kc nS nR nP rd rg ms ia ic it im sf nf z_len z_range z_all z_list z_tuple z_enumerate z_isinstance z_int z_bool z_str z_abs z_ValueError z_super gM bM tM_ g0_ b0_ t0_ g1_ b1_ t1_ g2_ b2_ t2_ g3_ b3_ t3_ g4_ b4_ t4_ g5_ b5_ t5_ g6_ b6_ t6_ g7_ b7_ t7_ g8_ b8_ t8_ g9_ b9_ t9_ g10_ b10_ t10_ g11_ b11_ t11_ g12_ b12_ t12_ g13_ b13_ t13_ g14_ b14_ t14_ g15_ b15_ t15_ g16_ b16_ t16_ g17_ b17_ t17_ g18_ b18_ t18_ stn rfl lC5 rV5 sa5 ex5 kC5 se5 vE5 al5 iI5 tI5 lk5 cd5_ lc5 vs5 fl5 ce5 no5_0 xg5 xk5 xd5 xa5 xm5 sM5 s5_0 s5_1 s5_2 s5_3 s5_4 s5_5 s5_6 s5_7 s5_8 s5_9 s5_10 s5_11 s5_12 s5_13 s5_14 s5_15 s5_16 s5_17 s5_18 aX_Cp bX_Cp tX_Cp pgX_Cp hdX_Cp poX_Cp saX_Cp mkX_Cp kcX_Cp iaX_Cp imX_Cp seX_Cp nsizeX_Cp n_hearsX_Cp n_saysX_Cp aX_Ck bX_Ck tX_Ck pgX_Ck hdX_Ck poX_Ck saX_Ck mkX_Ck kcX_Ck iaX_Ck imX_Ck seX_Ck nsizeX_Ck n_hearsX_Ck n_saysX_Ck n_knownX_Ck aX_Cd bX_Cd tX_Cd pgX_Cd hdX_Cd poX_Cd saX_Cd mkX_Cd kcX_Cd iaX_Cd imX_Cd seX_Cd nsizeX_Cd n_hearsX_Cd n_saysX_Cd aX_Cb bX_Cb tX_Cb pgX_Cb hdX_Cb poX_Cb saX_Cb mkX_Cb kcX_Cb iaX_Cb imX_Cb seX_Cb nsizeX_Cb n_hearsX_Cb n_saysX_Cb n_knownX_Cb lk101 cd101_ lc101 vs101 fl101 ce101 cx101 is101 kp101 ty101 fn101 nx1s nx1a nx2s nx2a at_init_Cp at_init_Ck at_init_Cd at_init_Cb
end Toy
open PySem PySem.W PyProof.Rows in
set_option maxRecDepth 100000 in
set_option maxHeartbeats 0 in
theorem PySem.Challenge.cw_murmurline_k14_people_refused_holds : PySem.Challenge.rw_murmurline_k14_people_refused.Holds := by
  w_on; o_law
  refine HandSHeadRun.head_any (r := OpenLaw.row PySem.Challenge.rw_murmurline_k14_people_refused) (q := view (OpenLaw.row PySem.Challenge.rw_murmurline_k14_people_refused).prog [46]) (H := Toy.hdH) (ob := Toy.hdO) (M := 12000) (loose := Toy.hdN) (d := HandSHeadRun.topDef (OpenLaw.row PySem.Challenge.rw_murmurline_k14_people_refused).prog 46) (kwd := []) Toy.hdO_eq
    (by kernel_rfl) (fun s => by kernel_rfl) Toy.hd_run (by kernel_rfl) (by kernel_rfl) (by kernel_rfl) (by rfl) (by first | assumption | decide +kernel) (by decide +kernel) ⟨rfl, rfl, rfl, rfl, rfl, by decide +kernel⟩ ?hw ?hc
  case hw => w_witness2
  case hc =>
    refine L2.walk_ofE (l := PySem.Challenge.rw_murmurline_k14_people_refused) (n := 63) (k := 8) (x := "_law_script") (CX := L2.CX0) rfl (by decide) (by kernel_rfl) ⟨rfl, by decide, by decide⟩ ?F (fun _ _ _ _ z => z)
    intro w mg fa h Y G hmg0
    obtain ⟨K, KX, c⟩ := Y
    have hmg : mg ("law" : PySem.Str) = some (.ref fa) := by
      have e : (HandSHeadRun.topDef (OpenLaw.row PySem.Challenge.rw_murmurline_k14_people_refused).prog 46).name = ("law" : PySem.Str) := by kernel_rfl
      rw [← e]
      exact hmg0
    obtain ⟨fd, hb, hF⟩ := Toy.hd_facts (w := w) KX G hmg c
    exact ⟨K, fd, Toy.spLaw K, KX, hb, fun H a ns hl _ hS => ⟨a, ns, rfl, hS, hl, fun _ => rfl⟩, hF⟩
