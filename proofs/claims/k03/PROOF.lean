import PyProof.Rows.All
import Wide.All
import OpenK.AllK
import Wide.FinOn
import KE.KStateDown
import KE.KExcIs
import KE.KIsAll
import Lean
import HandS.Base
import HandS.Call
import HandS.Ends
import HandS.More
import HandS.Words
import HandS.Exc
import HandS.ForMost
import HandS.ClsMeth
import HandS.Head0
import HandS.Head1
import HandS.Head2
import HandS.HeadEnd
import HandS.HeadHook1
import HandS.HeadHook2
import KE.KExcSuper
import HandS.ForExc
import HandS.ExcInit
import HandS.ExcSuper
import HandS.FStr
import HandS.Nested
import HandS.ExcField
import HandS.ExcCtx
import HandS.Comp
import HandS.Hot
import HandS.HotCalls
import HandS.ExcIs
import HandS.Star
import HandS.IsInst
import HandS.Walk
import HandS.SlotsOwn
import KE.GoesEnum
import HandS.Codes
import HandS.Conv
import KE.RegKSuper
import HandS.Style
import HandS.Deep
import KE.KOwnIter
import HandS.IterNext
import HandS.IterVal
import HandS.SortInts
import PySem.Challenge.RW_murmurline_k03_table_made
set_option Elab.async false
set_option linter.all false
set_option maxRecDepth 100000
set_option maxHeartbeats 4000000
set_option exponentiation.threshold 2000
/-! the head's facts by one Bool over the objects that the top has made -/
namespace Hd
open PySem PySem.Spec PyProof.Rows L2
/-! a small part of the heap: by names -/
def frNat {α : Type} (n : Nat) (k : Nat → α) : α := match n with
  | 0 => k 0
  | m + 1 => k (m + 1)
def forceL {α : Type} : List Addr → (List Addr → α) → α
  | [], k => k []
  | a :: r, k => frNat a fun a => forceL r fun r => k (a :: r)
def forceK {α : Type} (g : Addr → Option Obj) : List Addr → (PySem.W.Frag → α) → α
  | [], k => k []
  | a :: r, k => match g a with
    | some ⟨c, d, dt, sl⟩ => forceK g r fun r => k ((a, ⟨c, d, dt, sl⟩) :: r)
    | none => forceK g r k
theorem forceK_eq {α : Type} {g : Addr → Option Obj} : ∀ (l : List Addr) (k : PySem.W.Frag → α), forceK g l k = k (He.frG g l)
  | [], k => rfl
  | a :: r, k => by
    unfold forceK He.frG
    rw [List.filterMap_cons]
    cases h : g a with
    | none => exact forceK_eq r k
    | some o => exact forceK_eq r _
def nsOf (g : Addr → Option Obj) (c : Addr) : Addr := match g c with
  | some ⟨_, _, .cls cd, _⟩ => cd.ns
  | _ => 0
def gaG (g : Addr → Option Obj) (x : Str) : Addr := He.ga (He.frG g [mainGlobals]) x
def inNs (g : Addr → Option Obj) (ns : Addr) (m : Str) : Addr := match PySem.W.nsIn (He.frG g [ns]) ns m with
  | some (some (.ref a)) => a
  | _ => 0
def refs1 (g : Addr → Option Obj) (a : Addr) : List Addr := match g a with
  | some o => He.refsD o
  | none => []
def refs2 (g : Addr → Option Obj) (a : Addr) : List Addr := match g a with
  | some ⟨c, d, .func fd, sl⟩ => He.refsD ⟨c, d, .func fd, sl⟩
  | _ => []
def reach (g : Addr → Option Obj) (cls globs : List Str) (ms : List (Str × List Str)) : List Addr :=
  forceL (cls.map (gaG g)) fun cs => forceL (cs.map (nsOf g)) fun ns => forceL (globs.map (gaG g)) fun gs =>
  forceL (ms.flatMap fun p => p.2.map (inNs g (nsOf g (gaG g p.1)))) fun fs => forceL ((gs ++ fs).flatMap (refs1 g)) fun f1 => forceL (f1.flatMap (refs2 g)) fun f2 =>
  [mainGlobals, cStatics] ++ cs ++ ns ++ gs ++ fs ++ f1 ++ f2
/-- a def: where it stands; sup: it has the cell of its class -/
structure FnX where
  adr : PySem.W.Frag → Addr
  name : Str
  qual : Str
  params : Arguments
  body : List Stmt
  scope : Scope
  sup : Bool
abbrev FnO : Type := Option (Str × Str × Arguments × FuncBody × Scope × Addr × Value × Addr)
def obsAt (K : PySem.W.Frag) (a : Addr) : FnO := match K.lookup a with
  | some ⟨_, _, .func fd, _⟩ => some (fd.name, fd.qualname, fd.params, fd.body, fd.scope, fd.globals, fd.defaults, fd.builtins)
  | _ => none
def FnX.val (d : FnX) : FnO := some (d.name, d.qual, d.params, .stmts d.body, d.scope, mainGlobals, .none, builtinsNs)
def cellOf (K : PySem.W.Frag) (a : Addr) : Addr := match K.lookup a with
  | some ⟨_, _, .func fd, _⟩ => (match fd.closure with
    | [(_, c)] => c
    | _ => 0)
  | _ => 0
def codeOf (K : PySem.W.Frag) (a : Addr) : Addr := match K.lookup a with
  | some ⟨_, _, .func fd, _⟩ => (match fd.code with
    | .ref c => c
    | _ => 0)
  | _ => 0
def okAt (K : PySem.W.Frag) (a : Addr) (q : Str) (sup : Bool) : Bool := match K.lookup a with
  | some ⟨_, _, .func fd, _⟩ => PySem.W.codeIn K fd.code q && (match sup, fd.closure with
    | false, [] => true
    | true, [(x, _)] => decide (x = "__class__")
    | _, _ => false)
  | _ => false
theorem fnx_plain {K : PySem.W.Frag} {a : Addr} {n q : Str} {ps : Arguments} {b : List Stmt} {sc : Scope} (e : obsAt K a = some (n, q, ps, .stmts b, sc, mainGlobals, .none, builtinsNs)) (c : okAt K a q false = true) :
    ∃ oc od osl kV doc pm an cdv ct, K.lookup a = some ⟨oc, od, .func (PySem.W.fnOf n q ps b sc .none kV doc pm an cdv ct), osl⟩ ∧ PySem.W.codeIn K cdv q = true := by
  unfold obsAt at e
  unfold okAt at c
  cases lk : K.lookup a with
  | none =>
    rw [lk] at e
    cases e
  | some o =>
    obtain ⟨oc, od, dt, osl⟩ := o
    rw [lk] at c e
    cases dt with
    | func fd =>
      obtain ⟨n1, n2, n3, n4, n5, n6, n7, n8, n9, n10, n11, n12, n13, n14, n15⟩ := fd
      have e2 : (some (n1, n2, n3, n4, n5, n6, n8, n15) : FnO) = some (n, q, ps, .stmts b, sc, mainGlobals, .none, builtinsNs) := e
      simp only [Option.some.injEq, Prod.mk.injEq] at e2
      obtain ⟨h1, h2, h3, h4, h5, h6, h7, h8⟩ := e2
      subst h1 h2 h3 h4 h5 h6 h7 h8
      obtain ⟨c1, c2⟩ := He.ba c
      cases n7 with
      | nil => exact ⟨oc, od, osl, n9, n10, n11, n12, n13, n14, rfl, c1⟩
      | cons x r => cases c2
    | _ => cases c
theorem fnx_sup {K : PySem.W.Frag} {a : Addr} {n q : Str} {ps : Arguments} {b : List Stmt} {sc : Scope} (e : obsAt K a = some (n, q, ps, .stmts b, sc, mainGlobals, .none, builtinsNs)) (c : okAt K a q true = true) :
    ∃ oc od osl kV doc pm an ct, K.lookup a = some ⟨oc, od, .func (PySem.W.ksFn n q ps b sc .none kV doc pm an (.ref (codeOf K a)) ct (cellOf K a)), osl⟩ ∧ PySem.W.codeIn K (.ref (codeOf K a)) q = true := by
  unfold obsAt at e
  unfold okAt at c
  cases lk : K.lookup a with
  | none =>
    rw [lk] at e
    cases e
  | some o =>
    obtain ⟨oc, od, dt, osl⟩ := o
    rw [lk] at c e
    cases dt with
    | func fd =>
      obtain ⟨n1, n2, n3, n4, n5, n6, n7, n8, n9, n10, n11, n12, n13, n14, n15⟩ := fd
      have e2 : (some (n1, n2, n3, n4, n5, n6, n8, n15) : FnO) = some (n, q, ps, .stmts b, sc, mainGlobals, .none, builtinsNs) := e
      simp only [Option.some.injEq, Prod.mk.injEq] at e2
      obtain ⟨h1, h2, h3, h4, h5, h6, h7, h8⟩ := e2
      subst h1 h2 h3 h4 h5 h6 h7 h8
      obtain ⟨c1, c2⟩ := He.ba c
      have k1 : ∀ x, n13 = .ref x → codeOf K a = x := fun x hx => by
        unfold codeOf
        rw [lk]
        subst hx
        rfl
      cases n13 with
      | ref cd =>
        rw [k1 cd rfl]
        match n7, c2, lk with
        | [(x, cc)], c2, lk =>
          have ex : x = "__class__" := of_decide_eq_true c2
          subst ex
          have k2 : cellOf K a = cc := by
            unfold cellOf
            rw [lk]
          rw [k2]
          exact ⟨oc, od, osl, n9, n10, n11, n12, n14, rfl, c1⟩
      | _ => cases c1
    | _ => cases c
/-! ### other things that a top has written -/
def cvalB (K : PySem.W.Frag) (C : Addr) (x : Str) (i : Int) : Bool := match PySem.W.findCls K (.ref C) (.type "type") x with
  | some (.val (.int j _)) => decide (j = i)
  | _ => false
theorem cval_ok {K : PySem.W.Frag} {C : Addr} {x : Str} {i : Int} (h : cvalB K C x i = true) : ∃ t, PySem.W.findCls K (.ref C) (.type "type") x = some (.val (.int i t)) := by
  unfold cvalB at h
  split at h
  · rename_i j t e
    exact ⟨t, by rw [e, of_decide_eq_true h]⟩
  · cases h
def cmA (K : PySem.W.Frag) (C : Addr) (x : Str) : Addr := match PySem.W.findCls K (.ref C) (.type "type") x with
  | some (.get _ (.ref p) _ _) => p
  | _ => 0
def cmB (K : PySem.W.Frag) (C : Addr) (x : Str) (g : String) : Bool := match PySem.W.findCls K (.ref C) (.type "type") x with
  | some (.get f (.ref _) .none (.ref D)) => decide (f = .builtin g) && decide (D = C)
  | _ => false
theorem cm_ok {K : PySem.W.Frag} {C : Addr} {x : Str} {g : String} (h : cmB K C x g = true) : PySem.W.findCls K (.ref C) (.type "type") x = some (.get (.builtin g) (.ref (cmA K C x)) .none (.ref C)) := by
  unfold cmB at h
  unfold cmA
  split at h
  · rename_i f p D e
    obtain ⟨h1, h2⟩ := He.ba h
    rw [e, of_decide_eq_true h1, of_decide_eq_true h2]
  · cases h
def recA (K : PySem.W.Frag) (p : Addr) (n : String) : Addr := match PySem.W.recIn K p n with
  | some (.ref f :: _) => f
  | _ => 0
def recB (K : PySem.W.Frag) (p : Addr) (n : String) : Bool := match PySem.W.recIn K p n with
  | some (.ref _ :: _) => true
  | _ => false
theorem rec_ok {K : PySem.W.Frag} {p : Addr} {n : String} (h : recB K p n = true) : ∃ rs, PySem.W.recIn K p n = some (.ref (recA K p n) :: rs) := by
  unfold recB at h
  unfold recA
  split at h
  · rename_i f rs e
    exact ⟨rs, by rw [e]⟩
  · cases h
/-! ### a class of errors -/
def ecB (K : PySem.W.Frag) (C : Addr) : Bool := match K.lookup C with
  | some ⟨c, _, .cls ⟨_, _, .ref C' :: bm, _, _, hd, _, _, _, _, del⟩, ⟨[_, _, _, _, some nw, _]⟩⟩ => decide (c = .type "type") && (decide (C' = C) && (PySem.HandSPX.refsVE bm && (hd && (!del && decide (nw = .builtin "ValueError.__new__")))))
  | _ => false
theorem ec_ok {K : PySem.W.Frag} {C : Addr} (h : ecB K C = true) : ∃ nm q N bs bm sn sub ab col dd k0 k1 k2 k3 k5, K.lookup C = some (excClassObj nm q C N bs bm true sn sub ab col dd k0 k1 k2 k3 k5 "ValueError.__new__") ∧ PySem.HandSPX.refsVE bm = true := by
  unfold ecB at h
  split at h
  · rename_i c dd nm bs C' bm N q hd sn sub ab col del k0 k1 k2 k3 nw k5 e
    obtain ⟨h1, h⟩ := He.ba h
    obtain ⟨h2, h⟩ := He.ba h
    obtain ⟨h3, h⟩ := He.ba h
    obtain ⟨h4, h⟩ := He.ba h
    obtain ⟨h5, h6⟩ := He.ba h
    have e1 := of_decide_eq_true h1
    have e2 := of_decide_eq_true h2
    have e6 := of_decide_eq_true h6
    subst e1 e2 e6
    cases hd with
    | false => cases h4
    | true =>
      cases del with
      | true => cases h5
      | false => exact ⟨nm, q, N, bs, bm, sn, sub, ab, col, dd, k0, k1, k2, k3, k5, e, h3⟩
  · cases h
/-- the code object of a def knows the file -/
def fileB (K : PySem.W.Frag) (c : Addr) (file : Str) : Bool := match K.lookup c with
  | some ⟨_, _, .fields vs, _⟩ => (match (vs[2]? : Option Value) with
    | some (Value.str z _) => file == z
    | _ => false)
  | _ => false
theorem file_ok {K : PySem.W.Frag} {c : Addr} {file : Str} (h : fileB K c file = true) : ∃ ek ew ev er ef eg, K.lookup c = some ⟨ek, ew, .fields ev, er⟩ ∧ ev[2]? = some (.str ef eg) ∧ (file == ef) = true := by
  unfold fileB at h
  split at h
  · rename_i ek ew ev er e
    split at h
    · rename_i z t e2
      exact ⟨ek, ew, ev, er, z, t, e, e2, h⟩
    · cases h
  · cases h
def cellB (K : PySem.W.Frag) (c C : Addr) : Bool := match K.lookup c with
  | some ⟨_, _, .cell (some (.ref D)), _⟩ => decide (D = C)
  | _ => false
theorem cell_ok {K : PySem.W.Frag} {c C : Addr} (h : cellB K c C = true) : ∃ el eu eq, K.lookup c = some ⟨el, eu, .cell (some (.ref C)), eq⟩ := by
  unfold cellB at h
  split at h
  · rename_i el eu D eq e
    exact ⟨el, eu, eq, by rw [e, of_decide_eq_true h]⟩
  · cases h
/-! ### the Hook -/
abbrev AlB : Type := Bool × List FnO
def obsB (B : PySem.W.Frag → Bool) (fn : List FnX) (K : PySem.W.Frag) : AlB := (B K && fn.all fun d => okAt K (d.adr K) d.qual d.sup, fn.map fun d => obsAt K (d.adr K))
def valB (fn : List FnX) : AlB := (true, fn.map FnX.val)
def SaysB (B : PySem.W.Frag → Bool) (fn : List FnX) (K : PySem.W.Frag) : Prop := obsB B fn K = valB fn
def obsBG (as : (Addr → Option Obj) → List Addr) (B : PySem.W.Frag → Bool) (fn : List FnX) (g : Addr → Option Obj) : AlB := forceK g (as g) fun K => obsB B fn K
def hookB (as : (Addr → Option Obj) → List Addr) (B : PySem.W.Frag → Bool) (fn : List FnX) : PySem.W.Hook where
  α := AlB
  obs := fun s => obsBG as B fn s.heap.get?
  val := fun _ => valB fn
  says := fun _ h => ∃ K : PySem.W.Frag, K.In h ∧ SaysB B fn K
  of := fun _ _ e => ⟨_, He.frG_in, by rw [obsBG, forceK_eq] at e; exact e⟩
  keeps := fun _ _ _ ⟨K, hK, c⟩ k => ⟨K, PySem.W.Frag.In.keeps hK k, c⟩
theorem obsBG_eq {as : (Addr → Option Obj) → List Addr} {B : PySem.W.Frag → Bool} {fn : List FnX} {g : Addr → Option Obj} {s : Shared} (h : ∀ a, g a = s.heap.get? a) : obsBG as B fn g = (hookB as B fn).obs s := by
  have e : g = s.heap.get? := funext h
  rw [e] <;> rfl
section
variable {B : PySem.W.Frag → Bool} {fn : List FnX} {K : PySem.W.Frag}
theorem SaysB.bool (c : SaysB B fn K) : B K = true := (He.ba (show (B K && fn.all fun d => okAt K (d.adr K) d.qual d.sup) = true from congrArg (fun z : AlB => z.1) c)).1
theorem SaysB.def_ (c : SaysB B fn K) (i : Nat) {d : FnX} (h : fn[i]? = some d := by rfl) : obsAt K (d.adr K) = some (d.name, d.qual, d.params, .stmts d.body, d.scope, mainGlobals, .none, builtinsNs) ∧ okAt K (d.adr K) d.qual d.sup = true := by
  have c2 := (He.ba (show (B K && fn.all fun d => okAt K (d.adr K) d.qual d.sup) = true from congrArg (fun z : AlB => z.1) c)).2
  have e : fn.map (fun d => obsAt K (d.adr K)) = fn.map FnX.val := congrArg (fun z : AlB => z.2) c
  have e2 : (fn.map fun d => obsAt K (d.adr K))[i]? = (fn.map FnX.val)[i]? := by rw [e]
  rw [List.getElem?_map, List.getElem?_map, h] at e2
  exact ⟨Option.some.inj e2, List.all_eq_true.mp c2 d (List.mem_of_getElem? h)⟩
end
end Hd
/-! ## super().__init__(e) ahead of an own exception's stores -/
namespace SupX
open PySem PySem.Spec PyProof.Rows PySem.W L2
section
variable {prog : Program} {w : World} {A : Around} {E : Value → Shared → Prop} {h : Heap} {g : Array GenState} {d : Drawn} {t : Nat} {os : OsState}
variable {nm q : Str} {C N : Addr} {bs bm : List Value} {hdct : Bool} {sn : List Str} {sub : List Value} {ab : Bool} {col : Option Bool} {dd : Option Addr} {k0 k1 k2 k3 k5 : Option Value}
/-- the bound wrapper of ValueError.__init__ is called: the error's args are laid anew -/
theorem call_kw {u e t0 : Addr} {ws : List Value} {Q : Value → Shared → Prop} (oC : h.get? C = some (excClassObj nm q C N bs bm hdct sn sub ab col dd k0 k1 k2 k3 k5 "ValueError.__new__")) (oe : h.get? e = some (HandSPX.excO C t0))
    (ou : h.get? u = some (kxs_mw "ValueError.__init__" e)) (small : ws.length ≤ sizeLine) (k : ∀ h1 t1, (∀ b o, b ≠ e → h.get? b = some o → h1.get? b = some o) → h1.get? e = some (HandSPX.excO C t1) → Q .none ⟨h1, g, d, t, os⟩) :
    wpAny (model prog w) A (call (.ref u) ws) Q E ⟨h, g, d, t, os⟩ := by
  have FB := F.excBase_ValueError
  apply wpAny_call
  apply codeAny_of_tree
  change wpAny _ A.in1 (callAny (.ref u) ⟨ws, []⟩) _ _ _
  unfold callAny
  apply wpAny_bind
  apply wpAny_load ou
  have kind : (((kxs_mw "ValueError.__init__" e).cls == .type "method" || (kxs_mw "ValueError.__init__" e).cls == .type "builtin_function_or_method") || (kxs_mw "ValueError.__init__" e).cls == .type "method-wrapper") = true := by
    have z : (kxs_mw "ValueError.__init__" e).cls = .type "method-wrapper" := rfl
    rw [z]
    decide
  refine W.KFB.if_so kind (wpAny_bind (check_bound_init FB.toExcCallFacts oC oe rfl (wpAny_bind (wpAny_pure (wpAny_pure ?_)))))
  refine ⟨plainId_quiet FB.init.plain _, codeAny_builtin FB.initEntry ?_⟩
  exact exc_init_tree (cls := .ref C) (t0 := t0) (dv := none) (c2 := .none) (c3 := .none) (b4 := .bool false) oe small fun h1 k1 e1 _ => k h1 _ k1 e1
end
/-- a body's end, told as a call's end -/
theorem ce_of {X : Cx} (ex : X.ex = []) {Q : VK} : ∀ {fl : Flow} {s' : Shared}, SP X [] { nx := fun _ H' => Q .non H', rt := Q } fl s' → CR CX0 X.outer X.prog X.w X.H_0 X.s_0 Q E0 (.ok (.ret (match fl with | .ret v => v | _ => .none))) s'
  | .ret _, _, ⟨v, _, H1, J, r, k⟩ => ⟨v, H1, J.os, J.bare, ex ▸ J.base, J.hok, r, k⟩
  | .next, _, ⟨_, H1, J, k⟩ => ⟨.non, H1, J.os, J.bare, ex ▸ J.base, J.hok, rfl, k⟩
  | .brk, _, ⟨_, _, _, k⟩ => k.elim
  | .cont, _, ⟨_, _, _, k⟩ => k.elim
/-- what the written part says of an own exception's __init__ that begins with super().__init__ -/
structure SupC (P : Program) (K : PySem.W.Frag) (mg : Str → Option Value) (C : Addr) : Prop where
  T : OexC K C
  self : mroIn K C (.ref C) = some true
  noS : mg "super" = none
  top : (P.main.scope.names.lookup ("super" : Str)).isSome = false
  st : nsIn K cStatics "thirdparty.any" = some none
  al : ks_superIn K C C "__init__" = some (some (.builtin "ValueError.__init__"))
  vE : subIn K (.ref C) (.type "ValueError") = some true
section
variable {P : Program} {w : World} {K : PySem.W.Frag} {mg : Str → Option Value} {base : Heap} {CX : CXT} {k : Nat} {f cda cc C : Addr} {name qual : Str} {params : Arguments} {rest : List Stmt} {scope : Scope} {kV doc pm ct oc ccl cl : Value} {an od cdd cld : Option Addr} {osl ccs csl : Array (Option Value)}
  {vs0 : Array Value} {file : Str} {tf : Tok} {ps N : List Str} {sp : Sp} {p0 p1 p2 pos pos' : Pos} {arg : Expr} {ar : Arg}
abbrev nfOf (name qual : Str) (params : Arguments) (body : List Stmt) (scope : Scope) (cc cda : Addr) : NdefX.NF := ⟨name, qual, params, body, scope, [("__class__", cc)], cda⟩
theorem fn_sup (U : SupC P K mg C)
    (lk : K.lookup f = some ⟨oc, od, .func (ksFn name qual params (.Expr (.Call (.Attribute (.Call (.Name "super" p0) [] [] p1) "__init__" p2) [arg] [] pos) pos' :: rest) scope .none kV doc pm an (.ref cda) ct cc), osl⟩)
    (hcd : codeIn K (.ref cda) qual = true) (hcode : K.lookup cda = some ⟨ccl, cdd, .fields vs0, ccs⟩) (hvs : vs0[2]? = some (.str file tf)) (hfile : ((P.main.file : Str) == file) = true)
    (hcell : K.lookup cc = some ⟨cl, cld, .cell (some (.ref C)), csl⟩)
    (S : NdefX.NScope N ps ["__class__"] scope) (hks : scope.names.lookup ("super" : Str) = some .globalImplicit) (hp : (params.posonlyargs ++ params.args).head? = some ar) (hps : ps.head? = some ar.arg)
    (hev : ∀ env : Env, ∃ pl, eval (.Call (.Attribute (.Call (.Name "super" p0) [] [] p1) "__init__" p2) [arg] [] pos) env = (do
      let ov ← attributeBase (.Call (.Name "super" p0) [] [] p1) "__init__" env (eval (.Call (.Name "super" p0) [] [] p1) env)
      standAt p2.atName
      let (f, first) ← holding [ov] (getMethod ov "__init__" pl)
      callWith pos f first (backTo pos (starEach [arg] env)) []))
    (hse : ∀ env, starEach [arg] env = (false, eval arg env) :: starEach [] env) (hsw : ∀ env, swapsWith (.Call (.Attribute (.Call (.Name "super" p0) [] [] p1) "__init__" p2) [arg] [] pos) none pos'.line env = pure false)
    (len : ∀ vs H Q E, sp vs H Q E → vs.length = ps.length)
    (hbody : ∀ (A : Around) (outer : List Env) (s : Shared) (H : Hp) (vs : List V) (Q : VK) (E : XK), Room k (A.deeper (NdefX.envF (nfOf name qual params (.Expr (.Call (.Attribute (.Call (.Name "super" p0) [] [] p1) "__init__" p2) [arg] [] pos) pos' :: rest) scope cc cda) f s.heap.objs.size)) → sp vs H Q E →
      ∃ (a : Addr) (ta : TA) (t : TS), vs.head? = some (.ref a) ∧ H a = some (exo a C none) ∧
        PA (NdefX.ncx CX P w K mg base N (nfOf name qual params (.Expr (.Call (.Attribute (.Call (.Name "super" p0) [] [] p1) "__init__" p2) [arg] [] pos) pos' :: rest) scope cc cda) f A outer s H E) [arg] ta ∧
        PSs (NdefX.ncx CX P w K mg base N (nfOf name qual params (.Expr (.Call (.Attribute (.Call (.Name "super" p0) [] [] p1) "__init__" p2) [arg] [] pos) pos' :: rest) scope cc cda) f A outer s H E) rest t ∧
        ta (NdefX.startF N vs [none]) H (fun us H1 => us.length ≤ 1000 ∧ H1 a = some (exo a C none) ∧ t { nx := fun _ H' => Q .non H', rt := Q } (NdefX.startF N vs [none]) H1)) :
    FnOk P w K mg base CX (k + 1) f (ksFn name qual params (.Expr (.Call (.Attribute (.Call (.Name "super" p0) [] [] p1) "__init__" p2) [arg] [] pos) pos' :: rest) scope .none kV doc pm an (.ref cda) ct cc) ps sp := by
  constructor
  · exact len
  intro A outer s H args us vs Q E hr e0 hb r hsp
  have hl := len _ _ _ _ hsp
  have stays : ∀ b o, base.get? b = some o → s.heap.get? b = some o := fun b o e => (e0.bs b o e).1
  have KX := e0.mod.kin.keeps stays
  obtain ⟨a, ta, t, hva, hHa, hPA, hPS, hta⟩ := hbody A outer s H vs Q E (hr.deeper _) hsp
  refine ks_codeAny_call_defAt (fd := ksFn name qual params _ scope .none kV doc pm an (.ref cda) ct cc) (binds := ps.zip us) hr.depth (KX _ _ lk) rfl (e0.mod.nolimit.keeps stays) (codeRec_of KX hcd) rfl hb (fun y hy => S.nocell y hy) (fun y hy => S.par y.1 (List.of_mem_zip hy).1) (fun h₁ hns kp => ?_) S.co S.gen S.kind
  have hcl : ([("__class__", cc)] : List (Str × Addr)).lookup ("__class__" : Str) = some cc := by simp [List.lookup]
  have ccO : s.heap.get? cc = some ⟨cl, cld, .cell (some (.ref C)), csl⟩ := KX _ _ hcell
  have onlyc : ∀ y c, ([("__class__", cc)] : List (Str × Addr)).lookup y = some c → y = "__class__" ∧ c = cc := fun y c e => by
    by_cases hy : y = "__class__"
    · subst hy
      rw [hcl] at e
      exact ⟨rfl, (Option.some.inj e).symm⟩
    · have q : (y == ("__class__" : Str)) = false := by simpa using hy
      simp [List.lookup, q] at e
  have CA : NdefX.CellsAt [("__class__", cc)] ["__class__"] [none] s.heap H := {
    len := rfl
    all := fun y c e => by
      obtain ⟨_, rfl⟩ := onlyc y c e
      exact ⟨(e0.bs _ _ (e0.mod.kin _ _ hcell)).2, _, _, ccO, rfl⟩
    inj := fun x y c e1 e2 => by rw [(onlyc x c e1).1, (onlyc y c e2).1]
    has := fun i y e => by
      cases i with
      | zero =>
        cases e
        exact ⟨cc, hcl, fun v z => by cases z⟩
      | succ i => cases e }
  have I := NdefX.inv_startN (CX := CX) (F := nfOf name qual params (.Expr (.Call (.Attribute (.Call (.Name "super" p0) [] [] p1) "__init__" p2) [arg] [] pos) pos' :: rest) scope cc cda) (f := f) (E := E) (tk := s.toks + (ps.zip us).length) S hr.hd e0 hl r CA hns kp
  -- the object
  obtain ⟨u0, hu0, ru0⟩ : ∃ u0, us[0]? = some u0 ∧ RelV (.ref a) u0 := r.get (by rw [← List.head?_eq_getElem?]; exact hva)
  cases (show u0 = Value.ref a from ru0)
  have hself : (ps.zip us).reverse.lookup ar.arg = some (.ref a) := by
    have ndP : ps.Nodup := by
      have q := S.nd.sublist (List.take_sublist (ps.length + (["__class__"] : List Str).length) N)
      rw [S.pre] at q
      exact (List.nodup_append.mp q).1
    exact NdefX.zip_look (i := 0) ndP (by rw [← List.head?_eq_getElem?]; exact hps) hu0
  have hka : scope.names.lookup ar.arg = some .local := S.par _ (List.mem_of_getElem? (i := 0) (by rw [← List.head?_eq_getElem?]; exact hps))
  have hkc : scope.names.lookup ("__class__" : Str) = some .free := S.frk _ (by simp)
  have K1 : K.In h₁ := KX.keeps kp
  obtain ⟨nm, q, N', bs, bm, sn, sub, ab, col, dd, k0, k1, k2, k3, k5, hC, hbm⟩ := U.T.cls
  have hcd' : clsIn K C = some { name := nm, bases := bs, mro := .ref C :: bm, ns := N', qualname := q, hasDict := true, slotNames := sn, subclasses := sub, abstract := ab, collection := col, hasDel := false } := by unfold clsIn; rw [hC] <;> rfl
  obtain ⟨t1, ho⟩ := exo_at I.hok hHa
  obtain ⟨pl, hpl⟩ := hev (NdefX.envF (nfOf name qual params (.Expr (.Call (.Attribute (.Call (.Name "super" p0) [] [] p1) "__init__" p2) [arg] [] pos) pos' :: rest) scope cc cda) f s.heap.objs.size)
  refine ks_wpAt_execs_cons (ks_wpAt_Expr_any (ks_wpAt_MethodCall (pl := pl) ?_ hpl) (by show (scope.kind == .module && _) = false; rw [S.kind]; rfl) (hsw _))
  have oD : h₁.get? C = some (excClassObj nm q C N' bs bm true sn sub ab col dd k0 k1 k2 k3 k5 "ValueError.__new__") := K1 _ _ hC
  obtain ⟨mb, hb1, hb2⟩ := e0.mod.blt
  have bk : ∀ b o, base.get? b = some o → h₁.get? b = some o := fun b o e => kp b o (e0.bs b o e).1
  refine ks_wpAt_super_base (env := NdefX.envF (nfOf name qual params (.Expr (.Call (.Attribute (.Call (.Name "super" p0) [] [] p1) "__init__" p2) [arg] [] pos) pos' :: rest) scope cc cda) f s.heap.objs.size) hks hkc (by decide) rfl (K1 _ _ lk) rfl hp rfl (K1 _ _ hcode) rfl hvs hfile U.top ?_
  refine ks_loadName_global S.kind hks (Calls.loadGlobal_builtin (env := NdefX.envF (nfOf name qual params (.Expr (.Call (.Attribute (.Call (.Name "super" p0) [] [] p1) "__init__" p2) [arg] [] pos) pos' :: rest) scope cc cda) f s.heap.objs.size) (e0.mod.glob.keeps bk) U.noS (hb1.keeps bk) ((hb2 "super" (by decide)).trans (by decide +kernel : bootBuiltins "super" = some (.type "super"))) ⟨rfl, ?_⟩)
  refine wpAny_loadName_free S.kind hkc hcl ⟨_, K1 _ _ hcell, rfl⟩ ?_
  refine wpAny_loadName_local S.kind hka hns hself ?_
  refine ks_wpAny_isType_cls oD rfl ⟨rfl, ?_⟩
  refine ks_wpAny_call_super oD rfl ho rfl (fun c z => by cases z) (looks_mroIn K1 U.self) (fun h2 e2 k2 => ?_)
  have K2 : K.In h2 := K1.keeps k2
  have hx2 := k2 _ _ ho
  have Iat : InstAt h2 a { cls := .ref C, dict := none, data := .fields #[.ref t1, .none, .none, .none, .bool false, .none] } C none := ⟨hx2, rfl, rfl, trivial⟩
  have hal := U.al
  unfold ks_superIn at hal
  rw [hcd'] at hal
  have I2 := I.kept (h' := h2) (t' := s.toks + (ps.zip us).length + 1) k2
  refine kxs_getMethod kxs_ValueError e2 (looks_opaque K2 U.st) (l₀ := .ref C :: bm) (fun A Q E s k q => wpAny_bind ((looks_clsIn K2 hcd') A _ E s k (wpAny_pure q))) rfl K2 hal (Iat.type.andThen (looks_subIn K2 U.vE)) (ks_ne K2 Iat hcd') (by decide) ?_
  have I3 := I2.kept (h' := h2.push (kxs_mw "ValueError.__init__" a)) (t' := s.toks + (ps.zip us).length + 1) fun b o e => Heap.get?_push_of_some _ e
  have hu3 : (h2.push (kxs_mw "ValueError.__init__" a)).get? h2.objs.size = some (kxs_mw "ValueError.__init__" a) := Heap.get?_push_at rfl rfl
  have I4 := I3.pins_of (pins' := [(h2.objs.size, kxs_mw "ValueError.__init__" a)]) fun p hp => by
    rw [List.mem_singleton] at hp
    subst hp
    exact ⟨hu3, I2.hok.fresh (Nat.le_refl _), Nat.ne_of_gt I2.lt, I2.nofs (Nat.le_refl _), fun v z => by cases z⟩
  show wpAny _ _ (callWith pos (.ref h2.objs.size) [] (backTo pos (starEach [arg] (NdefX.envF (nfOf name qual params (.Expr (.Call (.Attribute (.Call (.Name "super" p0) [] [] p1) "__init__" p2) [arg] [] pos) pos' :: rest) scope cc cda) f s.heap.objs.size))) []) _ _ _
  have ev := hPA.run pos [(h2.objs.size, kxs_mw "ValueError.__init__" a)] _ _ H _ I4 hta
  rw [show (NdefX.ncx CX P w K mg base N (nfOf name qual params (.Expr (.Call (.Attribute (.Call (.Name "super" p0) [] [] p1) "__init__" p2) [arg] [] pos) pos' :: rest) scope cc cda) f A outer s H E).env = NdefX.envF (nfOf name qual params (.Expr (.Call (.Attribute (.Call (.Name "super" p0) [] [] p1) "__init__" p2) [arg] [] pos) pos' :: rest) scope cc cda) f s.heap.objs.size from rfl, hse] at ev
  rw [hse]
  refine kxs_callWith (i := "ValueError.__init__") (x := a) (by rfl) (Calls.evalArgs_plain (thn ev fun us1 s4 hh => ?_))
  obtain ⟨vs1, H1, J, r1, hlen, ha1, ht⟩ := hh
  have hu4 := (J.pin (h2.objs.size, kxs_mw "ValueError.__init__" a) (List.mem_append_right _ (by simp))).1
  refine ⟨hu4, ?_⟩
  obtain ⟨t2, ho4⟩ := exo_at J.hok ha1
  have hC4 := J.kIn _ _ hC
  obtain ⟨h4, g4, d4, t4, os4⟩ := s4
  show wpAny _ _ (call (.ref h2.objs.size) us1 []) _ _ _
  refine call_kw hC4 ho4 hu4 (by rw [← Paired.length r1, sizeLine_eq]; omega) fun h5 t5 k5 hx5 => ?_
  have J0 := J.pins_of (pins' := []) fun p hp => nomatch hp
  have J5 := J0.write (t' := t4) (x := a) (e := a) (o := exo a C none) (h' := h5) (by rw [ha1]; exact True.intro) (.inl rfl) k5 ⟨_, hx5⟩ (exo_ok hx5)
  have eu : upd H1 a (exo a C none) = H1 := by
    funext b
    by_cases hb : b = a
    · rw [hb, upd_same, ha1]
    · rw [upd_ne hb]
  rw [eu] at J5
  exact wpAt_of_wpAny (wpAny_mono (hPS.run [] _ _ H1 _ J5 ht) (fun fl s' hs => ce_of (X := NdefX.ncx CX P w K mg base N (nfOf name qual params (.Expr (.Call (.Attribute (.Call (.Name "super" p0) [] [] p1) "__init__" p2) [arg] [] pos) pos' :: rest) scope cc cda) f A outer s H E) rfl hs) fun e s' hs => hs)
end
end SupX
namespace Toy
open PySem PySem.Spec PyProof.Rows L2
/-! ### errors with one whole number -/
abbrev topE (i : Nat) : Stmt := PySem.Challenge.pw_murmurline_k03_table_made.main.body.getD i (.Pass ⟨0, 0, 0, 0⟩)
theorem str_le {n : Nat} (h : n ≤ 100000) : n ≤ sizeLine := Nat.le_trans h (by decide)
theorem int_le {i : Int} (h : i.natAbs.log2 < 1920) : (PySem.Str.ofString (toString i)).length ≤ 1921 := int_text_len_1921 h
/-- what an error's text can show -/
def Pr (v : V) : Prop := (∃ i : Int, v = .int i ∧ i.natAbs.log2 < 1920) ∨ ∃ y : Str, v = .str y ∧ y.length ≤ 1921
theorem Pr.int {i : Int} (h : i.natAbs < 2 ^ 1000) : Pr (.int i) := .inl ⟨i, rfl, by
  by_cases z : i.natAbs = 0
  · rw [z]; decide
  · exact Nat.lt_trans ((Nat.log2_lt z).mpr h) (by decide)⟩
/-- C's __init__: the error at a gets its own dict with the fields -/
def spEr (C : Addr) (flds : List Str) : Sp := fun vs H Q _ => ∃ (a : Addr) (xs : List V), vs = .ref a :: xs ∧ xs.length = flds.length ∧ (∀ v ∈ xs, Pr v) ∧ H a = some (exo a C none) ∧
  ∀ H2 dx, H dx = none → dx ≠ a → (∀ b, b ≠ a → b ≠ dx → H2 b = H b) → H2 a = some (exo a C (some dx)) → H2 dx = some (exd dx (flds.zip xs).reverse) → Q .non H2
/-- what the written part says of an error's class -/
structure Er (P : Program) (K : PySem.W.Frag) (mg : Str → Option Value) (x : Str) (flds : List Str) (C : Addr) : Prop where
  T : OexC K C
  gC : mg x = some (.ref C)
  init : ∃ fI fd, PySem.W.findIn K (.ref C) "__init__" = some (some (.ref fI)) ∧ PySem.W.typeIn K (.ref fI) = some (.type "function") ∧ Binds K fd ("self" :: flds) [] ∧ ∀ (w : World) (base : Heap), FnOk P w K mg base CX0 1 fI fd ("self" :: flds) (spEr C flds)
theorem made_eq {H H2 : Hp} {a d : Addr} {o : HO} (ha : H a = none) (h2 : ∀ b, b ≠ a → b ≠ d → H2 b = upd H a o b) (fs : List (Str × V)) : upd (del H2 a) d (.xd fs) = upd H d (.xd fs) := by
  funext b
  by_cases hb : b = d
  · rw [hb, upd_same, upd_same]
  · rw [upd_ne hb, upd_ne hb]
    by_cases hba : b = a
    · rw [hba, del_same, ha]
    · rw [del_ne hba, h2 b hba hb, upd_ne hba]
/-- C(..) is made -/
def tMkEr (C : Addr) (flds : List Str) (ta : TA) : L2.St → Hp → XK → Prop := fun σ H Q => ta σ H fun vs H1 => vs.length = flds.length ∧ (∀ v ∈ vs, Pr v) ∧ ∀ d, H1 d = none → Q (.ref C) (some d) (upd H1 d (.xd (flds.zip vs).reverse))
theorem pmk_er {X : Cx} {x : Str} {flds : List Str} {C : Addr} {e : Expr} {es : List Expr} {ta : TA} {p pos : Pos} (R : Er X.prog X.K X.mg x flds C) (hr : Room 2 X.A) (ha : PA X (e :: es) ta) (hfl : flds.length ≤ 1000) (hg : Gl X x)
    (hdb : (x == ("__debug__" : Str)) = false) (he : starEach (e :: es) X.env = (false, eval e X.env) :: starEach es X.env) (hpl : (backTo pos (starEach es X.env)).any (·.1) = false) :
    L2N.PMk X (.Call (.Name x p) (e :: es) [] pos) (tMkEr C flds ta) := by
  have ⟨fI, fd, iC, tI, hb, F⟩ := R.init
  have ⟨nm, q0, N, bs, bm, sn, sub, ab, col, dd, k0, k1, k2, k3, k5, hC, hbm⟩ := R.T.cls
  intro pins s σ H Q I h
  refine wpAny_Call_Name_kw (ld_glob I hg R.gC ?_ hdb)
  refine PySem.W.callWith_K (h₀ := X.base) I.ok.mod.kin R.T.kC (thn (ha.run pos pins s σ H _ I h) fun us s1 hh => ?_) he hpl
  have ⟨vs, H1, I1, r1, hl, hp, q⟩ := hh
  refine ⟨I1.kIn, ?_⟩
  change wpAny _ _ (call (.ref C) us) _ _ _
  obtain ⟨h1, g, dr, tk, os⟩ := s1
  -- the error's object e behind its args
  have big : h1.objs.size ≤ h1.objs.size + 1 := Nat.le_succ _
  generalize ee : h1.objs.size + 1 = e1 at big
  have none1 : H1 e1 = none := I1.hok.fresh big
  have keep : ∀ b o, h1.get? b = some o → ((h1.push (PySem.W.kdv_tup us)).push (PySem.HandSPX.excO C h1.objs.size)).get? b = some o := fun b o z => Heap.get?_push_of_some _ (Heap.get?_push_of_some _ z)
  have there : ((h1.push (PySem.W.kdv_tup us)).push (PySem.HandSPX.excO C h1.objs.size)).get? e1 = some (PySem.HandSPX.excO C h1.objs.size) := by rw [← ee]; heap_get
  have I2 : Inv X pins σ (upd H1 e1 (exo e1 C none)) ⟨(h1.push (PySem.W.kdv_tup us)).push (PySem.HandSPX.excO C h1.objs.size), g, dr, tk, os⟩ := I1.laid (t' := tk) keep big (exo_ok there)
  have few : us.length ≤ sizeLine := by
    have z := Paired.length r1
    rw [← z, sizeLine_eq]
    omega
  have want : spEr C flds (.ref e1 :: vs) (upd H1 e1 (exo e1 C none)) (fun v H2 => v = .non ∧ ∃ (d : Addr) (fs : List (Str × V)), H2 e1 = some (exo e1 C (some d)) ∧ H2 d = some (exd d fs) ∧ H1 d = none ∧ Q (.ref C) (some d) (upd (del H2 e1) d (.xd fs))) E0 :=
    ⟨e1, vs, rfl, hl, hp, upd_same, fun H2 dx hdx hne h2 ea ed => by
      rw [upd_ne hne] at hdx
      refine ⟨rfl, dx, _, ea, ed, hdx, ?_⟩
      rw [made_eq none1 h2]
      exact q dx hdx⟩
  have vals : Vals (V.ref e1 :: vs) (Value.ref e1 :: us) := .cons rfl r1
  have binds := hb ⟨(h1.push (PySem.W.kdv_tup us)).push (PySem.HandSPX.excO C h1.objs.size), g, dr, tk, os⟩ (Value.ref e1 :: us) I2.kIn (by rw [List.append_nil, ← vals.length, (F X.w X.base).len _ _ _ _ want])
  rw [List.append_nil] at binds
  have run := (F X.w X.base).run (X.A.under (.builtin "type.__call__" ⟨.ref C :: us, []⟩)) X.stack ⟨(h1.push (PySem.W.kdv_tup us)).push (PySem.HandSPX.excO C h1.objs.size), g, dr, tk, os⟩ _ ⟨Value.ref e1 :: us, []⟩ _ _ _ E0 (hr.make C us []) (I2.env0.make C us []) binds vals want
  refine wpAny_call (PySem.HandSPX.call_own PySem.F.excBase_ValueError (fun Y => PySem.HandSPX.refsVE_contains Y bm hbm) (I1.kIn _ _ hC) (PySem.W.looks_findIn I1.kIn iC) (fun self => PySem.W.bind_fn I1.kIn self tI) few ?_)
  rw [ee]
  refine codeAny_mono run fun r s' out => ?_
  match r, out with
  | .ok (.ret u), ⟨v, H2, o2, b2, u2, ok2, rv, ev, d, fs, ea, ed, n1, qq⟩ =>
    subst ev
    have ⟨t0, G, J, kG, ge, ho, na⟩ := mk_end0 (d2 := s'.drawn) (t2 := s'.toks) I1 big keep u2 ok2 o2 b2 ea ed n1
    exact ⟨rv, e1, _, _, _, _, .ref C, some d, rfl, J, kG, ge, ho, ⟨rfl, rfl, fun ws e => by cases e; rfl⟩, rfl, rfl, na, rfl, b2, raises_own R.T.exC R.T.tyC, qq⟩
def tRaiseEr (C : Addr) (flds : List Str) (W : WX) (ta : TA) : TS := fun _ σ H => tMkEr C flds ta σ H fun cls d H' => W cls d σ H'
theorem ps_raiseEr {X : Cx} {W : WX} {x : Str} {flds : List Str} {C : Addr} {e : Expr} {es : List Expr} {ta : TA} {p pos pos2 : Pos} (hc : X.calm = true) (R : Er X.prog X.K X.mg x flds C) (hr : Room 2 X.A) (tk : L2N.Takes X W) (ha : PA X (e :: es) ta) (hfl : flds.length ≤ 1000 := by decide) (hg : Gl X x := by rfl)
    (db : (x == ("__debug__" : Str)) = false := by decide) (he : starEach (e :: es) X.env = (false, eval e X.env) :: starEach es X.env := by rfl) (hpl : (backTo pos (starEach es X.env)).any (·.1) = false := by rfl) :
    PS X (.Raise (some (.Call (.Name x p) (e :: es) [] pos)) none pos2) (tRaiseEr C flds W ta) := L2N.ps_raise hc tk (pmk_er R hr ha hfl hg db he hpl)
/-! ### the texts -/
/-- what the written part says of an error's __init__ -/
structure ErT (P : Program) (K : PySem.W.Frag) (mg : Str → Option Value) (C : Addr) (qual : Str) (st : Stmt) (f : Addr) (fd : FuncData) : Prop where
  U : SupX.SupC P K mg C
  ex : ∃ (oc ccl cl : Value) (od cdd cld an : Option Addr) (osl ccs csl : Array (Option Value)) (cda cc : Addr) (kV doc pm ct : Value) (vs0 : Array Value) (file : Str) (tf : Tok),
    fd = PySem.W.ksFn "__init__" qual (defArgs st) (defBody st) (defScope st) .none kV doc pm an (.ref cda) ct cc ∧ K.lookup f = some ⟨oc, od, .func fd, osl⟩ ∧ PySem.W.codeIn K (.ref cda) qual = true ∧
      K.lookup cda = some ⟨ccl, cdd, .fields vs0, ccs⟩ ∧ vs0[2]? = some (.str file tf) ∧ ((P.main.file : Str) == file) = true ∧ K.lookup cc = some ⟨cl, cld, .cell (some (.ref C)), csl⟩
  iC : PySem.W.findIn K (.ref C) "__init__" = some (some (.ref f))
  tI : PySem.W.typeIn K (.ref f) = some (.type "function")
theorem cat_le {x y : Str} {m n k : Nat} (hx : x.length ≤ m) (hy : y.length ≤ n) (h : m + n ≤ k) : (x ++ y).length ≤ k := by
  rw [Str.length_append]
  omega
section
variable {P : Program} {w : World} {K : PySem.W.Frag} {mg : Str → Option Value} {base : Heap}
abbrev sBadSize : Stmt := topE 3
abbrev sBadSizeI : Stmt := inClass sBadSize 0
theorem scBadSizeI : NdefX.NScope ["self", "size", "__class__"] ["self", "size"] ["__class__"] (defScope sBadSizeI) := NdefX.nscope_by (by decide +kernel)
theorem ok_BadSizeI {f C : Addr} {fd : FuncData} (F : ErT P K mg C "BadSize.__init__" sBadSizeI f fd) (hno0 : PySem.W.findIn K (.ref C) "size" = some none) : FnOk P w K mg base CX0 1 f fd ["self", "size"] (spEr C ["size"]) := by
  obtain ⟨oc, ccl, cl, od, cdd, cld, an, osl, ccs, csl, cda, cc, kV, doc, pm, ct, vs0, file, tf, rfl, lk, hcd, hcode, hvs, hfile, hcell⟩ := F.ex
  refine SupX.fn_sup F.U lk hcd hcode hvs hfile hcell scBadSizeI rfl rfl rfl (fun env => ⟨_, rfl⟩) (fun env => rfl) (fun env => rfl) (fun vs H Q E h => ?_) (fun A outer s H vs Q E hr h => ?_)
  · obtain ⟨a, xs, rfl, hl, _⟩ := h
    show xs.length + 1 = _
    rw [hl]
    rfl
  · obtain ⟨a, xs, rfl, hl, hp, ha, q⟩ := h
    match xs, hl with
    | [x0], _ =>
      refine ⟨a, _, _, rfl, ha, pa_cons (pe_joined (.cons pe_str (.cons (pe_fmt (pv 1)) (.cons pe_str .nil)))) pa_nil, (pss_one (ps_ost (pv 0) (pv 1))), ?_⟩
      rcases hp x0 (by simp) with ⟨i0, rfl, h0⟩ | ⟨y0, rfl, h0⟩
      ·
        refine ⟨_, rfl, ?_, ⟨_, rfl, .inr ⟨i0, rfl, h0, _, rfl, ?_, ⟨_, rfl, ?_, ?_⟩⟩⟩⟩
        · exact Nat.le_trans (cat_le (k := 200) (show (Str.empty).length ≤ 0 from Nat.le_refl _) (show Str.length _ ≤ 200 by decide) (by decide)) (by decide)
        · exact Nat.le_trans (cat_le (k := 2121) (cat_le (k := 200) (show (Str.empty).length ≤ 0 from Nat.le_refl _) (show Str.length _ ≤ 200 by decide) (by decide)) (int_le h0) (by decide)) (by decide)
        · exact Nat.le_trans (cat_le (k := 2321) (cat_le (k := 2121) (cat_le (k := 200) (show (Str.empty).length ≤ 0 from Nat.le_refl _) (show Str.length _ ≤ 200 by decide) (by decide)) (int_le h0) (by decide)) (show Str.length _ ≤ 200 by decide) (by decide)) (by decide)
        · exact ⟨by show 1 ≤ 1000; decide, ha, _, rfl, _, rfl, a, C, rfl, F.U.T, hno0, .inl ⟨ha, fun dx h1 h2 => q _ dx h1 h2 (fun b n1 n2 => by rw [upd_ne n1, upd_ne n2]) upd_same (by rw [upd_ne h2, upd_same]; rfl)⟩⟩
      ·
        refine ⟨_, rfl, ?_, ⟨_, rfl, .inl ⟨y0, rfl, str_le (Nat.le_trans h0 (by decide)), _, rfl, ?_, ⟨_, rfl, ?_, ?_⟩⟩⟩⟩
        · exact Nat.le_trans (cat_le (k := 200) (show (Str.empty).length ≤ 0 from Nat.le_refl _) (show Str.length _ ≤ 200 by decide) (by decide)) (by decide)
        · exact Nat.le_trans (cat_le (k := 2121) (cat_le (k := 200) (show (Str.empty).length ≤ 0 from Nat.le_refl _) (show Str.length _ ≤ 200 by decide) (by decide)) h0 (by decide)) (by decide)
        · exact Nat.le_trans (cat_le (k := 2321) (cat_le (k := 2121) (cat_le (k := 200) (show (Str.empty).length ≤ 0 from Nat.le_refl _) (show Str.length _ ≤ 200 by decide) (by decide)) h0 (by decide)) (show Str.length _ ≤ 200 by decide) (by decide)) (by decide)
        · exact ⟨by show 1 ≤ 1000; decide, ha, _, rfl, _, rfl, a, C, rfl, F.U.T, hno0, .inl ⟨ha, fun dx h1 h2 => q _ dx h1 h2 (fun b n1 n2 => by rw [upd_ne n1, upd_ne n2]) upd_same (by rw [upd_ne h2, upd_same]; rfl)⟩⟩
abbrev sUnknownWord : Stmt := topE 5
abbrev sUnknownWordI : Stmt := inClass sUnknownWord 0
theorem scUnknownWordI : NdefX.NScope ["self", "word", "__class__"] ["self", "word"] ["__class__"] (defScope sUnknownWordI) := NdefX.nscope_by (by decide +kernel)
theorem ok_UnknownWordI {f C : Addr} {fd : FuncData} (F : ErT P K mg C "UnknownWord.__init__" sUnknownWordI f fd) (hno0 : PySem.W.findIn K (.ref C) "word" = some none) : FnOk P w K mg base CX0 1 f fd ["self", "word"] (spEr C ["word"]) := by
  obtain ⟨oc, ccl, cl, od, cdd, cld, an, osl, ccs, csl, cda, cc, kV, doc, pm, ct, vs0, file, tf, rfl, lk, hcd, hcode, hvs, hfile, hcell⟩ := F.ex
  refine SupX.fn_sup F.U lk hcd hcode hvs hfile hcell scUnknownWordI rfl rfl rfl (fun env => ⟨_, rfl⟩) (fun env => rfl) (fun env => rfl) (fun vs H Q E h => ?_) (fun A outer s H vs Q E hr h => ?_)
  · obtain ⟨a, xs, rfl, hl, _⟩ := h
    show xs.length + 1 = _
    rw [hl]
    rfl
  · obtain ⟨a, xs, rfl, hl, hp, ha, q⟩ := h
    match xs, hl with
    | [x0], _ =>
      refine ⟨a, _, _, rfl, ha, pa_cons (pe_joined (.cons (pe_fmt (pv 1)) (.cons pe_str .nil))) pa_nil, (pss_one (ps_ost (pv 0) (pv 1))), ?_⟩
      rcases hp x0 (by simp) with ⟨i0, rfl, h0⟩ | ⟨y0, rfl, h0⟩
      ·
        refine ⟨_, rfl, .inr ⟨i0, rfl, h0, _, rfl, ?_, ⟨_, rfl, ?_, ?_⟩⟩⟩
        · exact Nat.le_trans (cat_le (k := 1921) (show (Str.empty).length ≤ 0 from Nat.le_refl _) (int_le h0) (by decide)) (by decide)
        · exact Nat.le_trans (cat_le (k := 2121) (cat_le (k := 1921) (show (Str.empty).length ≤ 0 from Nat.le_refl _) (int_le h0) (by decide)) (show Str.length _ ≤ 200 by decide) (by decide)) (by decide)
        · exact ⟨by show 1 ≤ 1000; decide, ha, _, rfl, _, rfl, a, C, rfl, F.U.T, hno0, .inl ⟨ha, fun dx h1 h2 => q _ dx h1 h2 (fun b n1 n2 => by rw [upd_ne n1, upd_ne n2]) upd_same (by rw [upd_ne h2, upd_same]; rfl)⟩⟩
      ·
        refine ⟨_, rfl, .inl ⟨y0, rfl, str_le (Nat.le_trans h0 (by decide)), _, rfl, ?_, ⟨_, rfl, ?_, ?_⟩⟩⟩
        · exact Nat.le_trans (cat_le (k := 1921) (show (Str.empty).length ≤ 0 from Nat.le_refl _) h0 (by decide)) (by decide)
        · exact Nat.le_trans (cat_le (k := 2121) (cat_le (k := 1921) (show (Str.empty).length ≤ 0 from Nat.le_refl _) h0 (by decide)) (show Str.length _ ≤ 200 by decide) (by decide)) (by decide)
        · exact ⟨by show 1 ≤ 1000; decide, ha, _, rfl, _, rfl, a, C, rfl, F.U.T, hno0, .inl ⟨ha, fun dx h1 h2 => q _ dx h1 h2 (fun b n1 n2 => by rw [upd_ne n1, upd_ne n2]) upd_same (by rw [upd_ne h2, upd_same]; rfl)⟩⟩
end
end Toy
/-! ## try with several clauses «except C as n», the caught error's context being None -/
namespace L2N
open PySem PySem.Spec PyProof.Rows L2
abbrev Clauses := List (Value × (Addr → Value → Option Addr → TS))
/-- behind a suite the name is gone -/
def endsGone (D : Ends) (i : Nat) : Ends := { nx := fun σ H => D.nx (σ.set i none) H, bk := fun σ H => D.bk (σ.set i none) H, ct := fun σ H => D.ct (σ.set i none) H, rt := D.rt }
/-- what is wished of an error that the clauses l look at -/
def wClauses (K : PySem.W.Frag) (i : Nat) (Wout : WX) (D : Ends) : Clauses → WX
  | [] => Wout
  | p :: r => fun cls d σ H => ∃ b, PySem.W.exmOne K cls p.1 = some b ∧ (if b = true then ∀ a, H a = none → p.2 a cls d (endsGone D i) (σ.set i (some (.ref a))) H else wClauses K i Wout D r cls d σ H)
/-- the clauses of the text, each with the reading of its suite -/
inductive Reads (X : Cx) (n : Str) : List ExceptHandler → Clauses → Prop where
  | nil : Reads X n [] []
  | cons {x : Str} {c : Value} {ts : Addr → Value → Option Addr → TS} {s0 : Stmt} {ss : List Stmt} {q q' : Pos} {hs : List ExceptHandler} {l : Clauses} (named : Names X x c)
      (suite : ∀ (a : Addr) (oe : Obj) (cls : Value) (d : Option Addr) (pn : List (Addr × Obj)), Zn cls d oe → (∃ vs, oe.data = .fields vs) → PSs (X.suite a ((a, oe) :: pn)) (s0 :: ss) (ts a cls d)) (more : Reads X n hs l) :
      Reads X n (.ExceptHandler (some (.Name x q)) (some n) (s0 :: ss) q' :: hs) ((c, ts) :: l)
/-- an error on the ground of X -/
structure Down (X : Cx) (pins : List (Addr × Obj)) (σ : L2.St) (H : Hp) (cls : Value) (d : Option Addr) (a : Addr) (B : Heap) (sI s : Shared) : Prop where
  inv : Inv X pins σ H sI
  back : ∀ b o, sI.heap.get? b = some o → b ∉ frs X.stack → B.get? b = some o
  up : sI.heap.UpToSlots s.heap
  fly : HandSPX.FlyingZ B (X.env :: X.outer) a (Zn cls d) s.heap
  new : H a = none
  os : s.os = sI.os
  bare : AllBare s.gens
section
variable {X : Cx} {pins : List (Addr × Obj)} {σ : L2.St} {H : Hp} {cls : Value} {d : Option Addr} {a : Addr} {B : Heap} {sI s : Shared}
theorem Down.now (z : Down X pins σ H cls d a B sI s) : Inv X pins σ H s := z.inv.landed z.back z.fly.1 z.up z.os z.bare
/-- its object stands outside of what is tracked, outside of the frames -/
theorem Down.kept (z : Down X pins σ H cls d a B sI s) (hf : X.env.frame = some X.env.locals) : ∃ (oe : Obj) (vs : Array Value), s.heap.get? a = some oe ∧ Zn cls d oe ∧ oe.data = .fields vs ∧ Inv (X.suite a ((a, oe) :: (X.pn ++ pins))) [] σ H s := by
  have ⟨oe, vs, h1, h2, h3⟩ := z.fly.there
  have out : a ∉ frs (X.env :: X.outer) := fun m => by
    have ⟨_, o, e, no⟩ := z.fly.2.2.1.mem m
    exact no vs ((Option.some.inj (h1.symm.trans e)) ▸ h3)
  have loc : X.env.locals ∈ frs (X.env :: X.outer) := List.mem_filterMap.mpr ⟨X.env, by simp, hf⟩
  have sub : ∀ b, b ∈ X.fs → b ∈ frs (X.env :: X.outer) := fun b m => by
    have ⟨e, m1, m2⟩ := List.mem_filterMap.mp m
    exact List.mem_filterMap.mpr ⟨e, by simp [m1], m2⟩
  exact ⟨oe, vs, h1, h2, h3, z.now.suite h1 h3 z.new (fun e => out (e ▸ loc)) (fun m => out (sub _ m))⟩
/-- no clause is left: on it goes -/
theorem Down.past {Wout : WX} {D : Ends} (z : Down X pins σ H cls d a B sI s) (hs : X.stack = X.env :: X.outer) (hf : X.env.frame = some X.env.locals) (tk : Takes X Wout) (w : Wout cls d σ H) :
    wpAny (model X.prog X.w) X.A (handleBy (.ref a) X.env []) (SP X pins D) X.xe s := by
  apply wpAny_handleBy_nil
  have ⟨_, _, _, oe, vs, T, _, _, h1, _, h3, h4, _⟩ := z.fly
  unfold PySem.passOn
  apply wpAny_bind
  refine wpAny_field h1 h3 h4 ?_
  have no : ¬ ((Value.ref T == Value.none) = true) := by simp
  rw [if_neg no]
  have goes : wpAny (model X.prog X.w) X.A (setFlight (.ref a) X.env.frame) (fun _ s4 => wpAny (model X.prog X.w) X.A (throw (.ref a) : Sem Flow) (SP X pins D) X.xe s4) X.xe s := by
    rw [hf]
    refine HandSPX.setFlight_upZ z.fly fun h4 held more => wpAny_throw (tk _ _ ?_)
    refine ⟨a, B, sI, pins, σ, H, cls, d, rfl, z.inv, z.back, z.up.trans more, .inr (.inr ?_), z.new, z.os, z.bare, w⟩
    rw [hs]
    exact held
  first
    | exact wpAny_bind goes
    | exact wpAny_bind (wpAny_pure (wpAny_bind goes))
/-- a clause's class is looked up -/
theorem named_at {x : Str} {c : Value} {q : Pos} {oe : Obj} {Q E : Value → Shared → Prop} (S : Inv (X.suite a ((a, oe) :: (X.pn ++ pins))) [] σ H s) (hn : Names X x c) (k : Q c s) : wpAny (model X.prog X.w) (X.A.mark (some (.ref a))) (eval (.Name x q) X.env) Q E s := by
  rcases hn with ⟨g, db, m | ⟨m, bt, nn⟩⟩
  · exact ld_glob (X := X.suite a ((a, oe) :: (X.pn ++ pins))) S g m k db
  · exact ld_blt (X := X.suite a ((a, oe) :: (X.pn ++ pins))) S g m bt k nn db
theorem Down.handle {n : Str} {i : Nat} {Wout : WX} {D : Ends} (hs : X.stack = X.env :: X.outer) (hf : X.env.frame = some X.env.locals) (hN : X.N.Nodup) (hi : X.N[i]? = some n) (hln : X.env.kindOf n = some .local) (tk : Takes X Wout) {hds : List ExceptHandler} {l : Clauses}
    (R : Reads X n hds l) : ∀ s, Down X pins σ H cls d a B sI s → wClauses X.K i Wout D l cls d σ H → wpAny (model X.prog X.w) X.A (handleBy (.ref a) X.env hds) (SP X pins D) X.xe s := by
  induction R with
  | nil => exact fun s z w => z.past hs hf tk w
  | @cons x c ts s0 ss q q' hs' l' named suite more ih =>
    intro s z ⟨b, yes, w⟩
    have ⟨oe, vs, h1, h2, h3, S⟩ := z.kept hf
    have ty : PySem.W.Looks (model X.prog X.w) s.heap (typeOf (.ref a)) cls := fun _ _ _ _ k q => wpAny_typeOf_ref (k _ _ h1) (h2.1 ▸ q)
    have lk := PySem.W.exm_one (M := model X.prog X.w) z.now.kIn ty yes
    refine wpAny_handleBy_cons (codeAny_handlers_test (named_at S named (lk.here ?_))) (fun e => by cases e)
    cases b with
    | false => exact ih s z w
    | true =>
      refine codeAny_handlers_suite_as (HandSPX.lands_againZ z.fly fun h4 fly up => ?_)
      have z4 : Down X pins σ H cls d a B sI { s with heap := h4 } := ⟨z.inv, z.back, z.up.trans up, fly, z.new, z.os, z.bare⟩
      have ⟨oe4, vs4, _, g2, g3, S4⟩ := z4.kept hf
      refine store_ok (X := X.suite a ((a, oe4) :: (X.pn ++ pins))) (v := .ref a) S4 hN hi (.inl hln) rfl (fun s5 S5 => ?_) (.inr hln)
      have run := (suite a oe4 cls d (X.pn ++ pins) g2 ⟨_, g3⟩).run [] s5 _ H _ S5 (w a z.new)
      refine wpAny_mono run (fun f s6 out => ?_) fun _ _ no => no.elim
      have gone : ∀ {σ6 : L2.St} {H6 : Hp} {Q : Shared → Prop}, Inv (X.suite a ((a, oe4) :: (X.pn ++ pins))) [] σ6 H6 s6 → (∀ s7, Inv X pins (σ6.set i none) H6 s7 → Q s7) → wpAny (model X.prog X.w) X.A (do bindName X.env n .none; unbindBehindTheSuite X.env n q') (fun _ s7 => Q s7) X.xe s6 :=
        fun S6 k => gone_ok (S6.unsuite z.inv.ok) hN hi hln k
      match f, out with
      | .next, ⟨_, _, S6, k⟩ => exact gone S6 fun s7 J => ⟨_, _, J, k⟩
      | .brk, ⟨_, _, S6, k⟩ => exact gone S6 fun s7 J => ⟨_, _, J, k⟩
      | .cont, ⟨_, _, S6, k⟩ => exact gone S6 fun s7 J => ⟨_, _, J, k⟩
      | .ret _, ⟨_, _, _, S6, r, k⟩ => exact gone S6 fun s7 J => ⟨_, _, _, J, r, k⟩
/-- the statement -/
theorem ps_try_clauses {n : Str} {i : Nat} {Wout : WX} {body : List Stmt} {h0 : ExceptHandler} {hds : List ExceptHandler} {l : Clauses} {pos : Pos} {tb : WX → TS} (hs : X.stack = X.env :: X.outer) (hf : X.env.frame = some X.env.locals) (hN : X.N.Nodup) (hi : X.N[i]? = some n) (hln : X.env.kindOf n = some .local)
    (tk : Takes X Wout) (hb : ∀ (W : WX) (pn : List (Addr × Obj)) (xe : Value → Shared → Prop), Takes (X.tr pn xe) W → PassesOwn (model X.prog X.w) X.A X.env xe → PSs (X.tr pn xe) body (tb W)) (R : Reads X n (h0 :: hds) l) :
    PS X (.Try body (h0 :: hds) [] [] pos) (fun D σ H => tb (wClauses X.K i Wout D l) D σ H) := by
  constructor
  intro pins s σ H D I h
  have fr : X.A.frames = some (X.env :: X.outer) := I.ok.frames.trans (by rw [hs])
  apply wpAny_Try_except
  have run := (hb (wClauses X.K i Wout D l) (X.pn ++ pins) (fun e s1 => wpAny (model X.prog X.w) X.A (noteFrame e X.env) (fun _ s2 => wpAny (model X.prog X.w) X.A (setFlight e none) (fun _ s3 => wpAny (model X.prog X.w) X.A (handleBy e X.env (h0 :: hds)) (SP X pins D) X.xe s3) X.xe s2) X.xe s1) (fun u s' c => by
    have ⟨a, B, sI, _, σ', H', cls, d, eu, J, nb, up, sky, na, os, ag, w⟩ := c
    subst eu
    rw [show (X.tr (X.pn ++ pins) _).stack = X.stack from rfl, hs] at sky
    refine Sky.land Zn.steady fr hf sky fun h3 fl more => ?_
    exact Down.handle hs hf hN hi hln tk R _ ⟨J.ofTry I.ok, nb, up.trans more, fl, na, os, ag⟩ w) PassesOwn.looking).run [] s σ H D (I.toTry _) h
  refine wpAny_mono run (fun f s1 out => ?_) fun _ _ z => z
  match f, out with
  | .next, ⟨_, _, J, k⟩ => exact wpAny_execs_nil ⟨_, _, J.ofTry I.ok, k⟩
  | .brk, ⟨_, _, J, k⟩ => exact ⟨_, _, J.ofTry I.ok, k⟩
  | .cont, ⟨_, _, J, k⟩ => exact ⟨_, _, J.ofTry I.ok, k⟩
  | .ret _, ⟨_, _, _, J, r, k⟩ => exact ⟨_, _, _, J.ofTry I.ok, r, k⟩
end
end L2N
/-! ## a list walked by a comprehension while an error is handled -/
namespace HotX2
open PySem PySem.Spec PyProof.Rows HotX
section
variable {prog : Program} {w : World} {A : Around} {E : Value → Shared → Prop} {s : Shared}
/-- the iterator at it is at its end: StopIteration is made (its context the handled error), and met -/
theorem list_ends {it l x1 : Addr} {i : Nat} {vals : Array Value} {Q : Option Value → Shared → Prop} (hot : HotAt A x1 s.heap) (ne : x1 ≠ it) (isIt : s.heap.IsListIter it l i) (isL : s.heap.IsList l vals) (past : vals[i]? = none)
    (k : ∀ h1, Heap.ExtBut it s.heap h1 → Q none { s with heap := h1 }) : wpAny (model prog w) A (pyNext (.ref it)) Q E s := by
  have ⟨hh, o1, ws, g1, e1, n1⟩ := hot
  have ty := isIt.typeIs
  have ⟨oi, gi, ci, di⟩ := isIt
  have ⟨ol, gl, _, nl, dl⟩ := isL
  have same1 : ∀ f, (s.heap.update it f).get? x1 = some o1 := fun f => (Heap.get?_update_ne _ _ _ _ ne).trans g1
  have sameB : ∀ f b o, b ≠ it → s.heap.get? b = some o → (s.heap.update it f).get? b = some o := fun f b o nb g => (Heap.get?_update_ne _ _ _ _ nb).trans g
  have noN : ¬ ((Value.ref l == Value.none) = true) := Bool.false_ne_true
  unfold pyNext
  apply wpAny_bind; apply wpAny_attempt
  refine wpAny_callSpecial?_slot (name := Str.ofString "__next__") ty slot_listiter_next (wpAny_call_entry slot_listiter_next ty entry_listiter_next ?_ (args_listiter_next _))
  change wpAny _ _ (field (.ref it) 0 >>= _) _ _ s
  refine wpAny_bind (wpAny_field (x := .ref l) gi di rfl ?_)
  change wpAny _ _ (ite ((Value.ref l == Value.none) = true) _ _) _ _ s
  rw [if_neg noN]
  change wpAny _ _ (field (.ref it) 1 >>= _) _ _ s
  refine wpAny_bind (wpAny_field (x := .int i 0) gi di rfl ?_)
  change wpAny _ _ (seqItems? (.ref l) >>= _) _ _ s
  refine wpAny_bind (wpAny_seqItems gl dl ?_)
  simp only [Int.toNat_natCast, past]
  refine wpAny_bind (wpAny_rule (wpAny_bind (wpAny_setField gi di (by simp) ?_)))
  change wpAny _ _ (newExc (.type "StopIteration") [] >>= _) _ _ _
  apply wpAny_bind
  simp only [newExc, newTuple]
  refine wpAny_bind (wpAny_newObj_type (wpAny_bind (m := firstArgMember _ _) (wpAny_of_eq (a := Value.none) (by first | rfl | (simp only [firstArgMember]; rfl)) (wpAny_newObj_type ?_ (by size_fits)))) (by size_fits))
  have up2 : ∀ {h1 : Heap} {b : Addr} {o x y : Obj}, h1.get? b = some o → ((h1.push x).push y).get? b = some o := fun e => Heap.get?_push_of_some _ (Heap.get?_push_of_some _ e)
  have lt2 : ∀ {h1 : Heap} {b : Addr} {o x : Obj}, h1.get? b = some o → b < (h1.push x).objs.size := fun e => Heap.lt_size (Heap.get?_push_of_some _ e)
  refine raiseNew_hot (x1 := x1) ⟨hh, o1, ws, up2 (same1 _), e1, n1⟩ (Nat.ne_of_lt (lt2 (same1 _))) (Heap.get?_push_size _ rfl) rfl (by first | (simp; done) | (simp; omega) | (simp only [Array.size_append]; simp; omega)) (wpAny_bind ?_)
  refine wpAny_isInstance (T := "StopIteration") (b := true) ⟨_, Heap.get?_update_self _ (Heap.get?_push_size _ rfl) rfl, rfl⟩ isSubtype_stop (wpAny_pure (k _ fun b o nb g => ?_))
  exact (Heap.get?_update_other _ _ (Nat.ne_of_gt (lt2 (sameB _ b o nb g)))).trans (up2 (sameB _ b o nb g))
end
end HotX2

namespace L2
open PySem PySem.Spec PyProof.Rows
section
variable {X : Cx} {pins : List (Addr × Obj)} {σ : St} {H : Hp} {s : Shared}
theorem fpOk_turned (I : Inv X pins σ H s) {it : Addr} (f : FpOk X pins H it) {h1 : Heap} (k : ∀ b o, b ≠ it → s.heap.get? b = some o → h1.get? b = some o) : Inv X pins σ H { s with heap := h1 } :=
  I.turned (t' := s.toks) (fun b o nb g => k b o nb g) f.1 f.2.1 f.2.2.2.1 f.2.2.2.2.1 f.2.2.2.2.2
theorem pe_lcH {elt tg iter : Expr} {ifs : List Expr} {scope : Scope} {own : List (Str × Nat)} {pos : Pos} {tl : TE} {g : TG} {tt : TT} {te : TE} (hot : L2H.HotC X) (hN : X.N.Nodup) (il : PE X iter tl) (ok : BlkOk X.N X.env.scope scope own)
    (hg : ∀ s H C cl fp, PG (X.blk s H scope (compEnvC scope cl C X.env) fp) tg g) (ht : ∀ s H C cl fp, PTs (X.blk s H scope (compEnvC scope cl C X.env) fp) ifs tt)
    (he : ∀ s H C cl fp, PE (X.blk s H scope (compEnvC scope cl C X.env) fp) elt te) (hs : ∀ x, foldedSetIterable iter X.env x = pure x := by intro _; rfl) :
    PE X (.ListComp elt [⟨tg, iter, ifs, 0⟩] scope pos) (tLc (iList X.K tl) g tt te (own.map (·.2))) := by
  constructor
  intro pins s σ H Q I h
  have ⟨p, ⟨hh, ws, pd, pc⟩, pm⟩ := hot
  have free : ∀ y ∈ scope.names, y.2 = .free → ∃ c, X.env.cells.lookup y.1 = some c := fun y m e => (ok.free y m e).elim (fun k => I.ok.has _ (.inl k)) fun k => I.ok.has _ (.inr k)
  rw [eval_ListComp]
  refine wpAny_comprehension_free rfl hs (closure_ok free) ok.kind (fun y m e => (ok.uniq y m).trans (e ▸ rfl)) (thn (il.run pins s σ H _ I h) fun xv s1 hx => ?_)
  have ⟨x, H1, I1, r1, a, ex, ⟨xs, hq⟩, q⟩ := hx
  subst ex
  cases r1
  have ⟨its, _, pl, _⟩ := I1.list hq
  refine wpAny_pyIter_list pl.isList (wpAny_newObj_type (newEnv_comp ?_) (show 0 ≤ sizeLine from Nat.zero_le _))
  -- the iterator, the new list
  have I2 := I1.kept (h' := s1.heap.push { cls := .type "list_iterator", data := .fields #[.ref a, .int 0 0] }) (t' := s1.toks) fun b o e => Heap.get?_push_of_some _ e
  have it0 : (s1.heap.push { cls := .type "list_iterator", data := .fields #[.ref a, .int 0 0] }).IsListIter s1.heap.objs.size a 0 := ⟨_, Heap.get?_push_size _ rfl, rfl, rfl⟩
  have new1 : H1 s1.heap.objs.size = none := I1.hok.fresh (Nat.le_refl _)
  generalize hk2 : s1.heap.push { cls := .type "list_iterator", data := .fields #[.ref a, .int 0 0] } = k2 at I2 it0 ⊢
  have lt2 : s1.heap.objs.size < k2.objs.size := by rw [← hk2, Heap.size_push]; exact Nat.lt_succ_self _
  have fp2 : FpOk X pins H1 s1.heap.objs.size := I1.fpOk (Nat.le_refl _) new1
  have I3 : Inv X pins σ (upd H1 k2.objs.size (.lst [])) { s1 with heap := k2.push { cls := .type "list", data := .seq ([] : List Value).toArray } } :=
    I2.laid (t' := s1.toks) (fun b o e => Heap.get?_push_of_some _ e) (Nat.le_refl _) ⟨Nat.zero_le _, [], 0, .nil, Heap.get?_push_size _ rfl⟩
  have ⟨W, ⟨m0, w0⟩, turn⟩ := q k2.objs.size (I2.hok.fresh (Nat.le_refl _))
  have fp3 : FpOk X pins (upd H1 k2.objs.size (.lst [])) s1.heap.objs.size := ⟨(upd_ne (Nat.ne_of_lt lt2)).trans fp2.1, fp2.2⟩
  have it3 : (k2.push { cls := .type "list", data := .seq ([] : List Value).toArray }).IsListIter s1.heap.objs.size a 0 := it0.at fun o e => Heap.get?_push_of_some _ e
  generalize hH3 : upd H1 k2.objs.size (.lst []) = H3 at I3 w0 fp3
  generalize hs3 : ({ s1 with heap := k2.push { cls := .type "list", data := .seq ([] : List Value).toArray } } : Shared) = s3 at I3
  generalize hit : s1.heap.objs.size = it at *
  generalize hD : k2.objs.size = D at *
  have e3 : s3.heap = k2.push { cls := .type "list", data := .seq ([] : List Value).toArray } := by rw [← hs3]
  have it3' : s3.heap.IsListIter it a 0 := by rw [e3]; exact it3
  have lt3 : it < s3.heap.objs.size := by rw [e3, Heap.size_push, hD]; exact Nat.lt_succ_of_lt lt2
  have I4 := block_start I3 ok hN (fp := [it]) fun b m => by
    rw [List.mem_singleton] at m
    subst m
    exact ⟨fp3, lt3⟩
  have P3 := I3.pin p (List.mem_append_left _ pm)
  have offst : p.1 ∉ frs X.stack := fun m => (List.mem_cons.mp (I3.stkSub p.1 m)).elim P3.2.2.1 P3.2.2.2.1
  have nep : p.1 ≠ it := fp3.2.2.2.2.2 p (List.mem_append_left _ pm)
  have pg := hg s3 H3 s3.heap.objs.size (cellsFrom (s3.heap.objs.size + 1) scope.names (cloFrom X.env.cells scope.names [])) [it]
  have pt := ht s3 H3 s3.heap.objs.size (cellsFrom (s3.heap.objs.size + 1) scope.names (cloFrom X.env.cells scope.names [])) [it]
  have pe := he s3 H3 s3.heap.objs.size (cellsFrom (s3.heap.objs.size + 1) scope.names (cloFrom X.env.cells scope.names [])) [it]
  change codeAny _ _ (.compStart (.ListComp elt [⟨tg, iter, ifs, 0⟩] scope pos) 0 (.ref it) (.ref D) (compEnvC scope (cellsFrom (s3.heap.objs.size + 1) scope.names (cloFrom X.env.cells scope.names [])) s3.heap.objs.size X.env)) (compPost (model X.prog X.w) X.A X.xe none _ (.ref D) s3.heap.objs.size) { s3 with heap := pushCells (s3.heap.push { cls := .type "dict", data := .dict #[] }) scope.names }
  generalize hce : compEnvC scope (cellsFrom (s3.heap.objs.size + 1) scope.names (cloFrom X.env.cells scope.names [])) s3.heap.objs.size X.env = ce at I4 pg pt pe ⊢
  have cL : ce.locals = s3.heap.objs.size := by rw [← hce]; rfl
  have it4 : (pushCells (s3.heap.push { cls := .type "dict", data := .dict #[] }) scope.names).IsListIter it a 0 := it3'.at fun o e => pushCells_keeps _ _ _ _ (Heap.get?_push_of_some _ e)
  have fpB : ∀ {σ' : L2.St} {H' : Hp} {s' : Shared}, Inv (X.blk s3 H3 scope ce [it]) [] σ' H' s' → H' it = none → FpOk (X.blk s3 H3 scope ce [it]) [] H' it := fun J n =>
    ⟨n, (J.ok.exf it (by simp)).1, J.ok.exfs it (by simp), .inl (by simp), fun x c e => (J.ok.exf it (by simp)).2 x c e, fun r m => absurd m (by simp)⟩
  have loop : codeAny (model X.prog X.w) X.A (.compLoop (.ListComp elt [⟨tg, iter, ifs, 0⟩] scope pos) 0 (.ref it) (.ref D) ce) (compPost (model X.prog X.w) X.A X.xe none (EP X pins σ Q) (.ref D) s3.heap.objs.size) { s3 with heap := pushCells (s3.heap.push { cls := .type "dict", data := .dict #[] }) scope.names } := ?_
  · exact codeAny_compStart_list loop (wpAny_pyIter_listiter it4 loop)
  refine compLoop_any (fun n s' => ∃ i H', Inv (X.blk s3 H3 scope ce [it]) [] (wipe σ (own.map (·.2))) H' s' ∧ s'.heap.IsListIter it a i ∧ H' it = none ∧ W i n H') ?_ m0 ⟨0, H3, I4, it4, fp3.1, w0⟩
  rintro n s5 ⟨i, H5, I5, st5, n5, w5⟩
  rcases turn i n H5 w5 with ⟨⟨xs5, hq5, past⟩, qq⟩ | ⟨⟨xs5, y, hq5, hy⟩, Nx, hNx, step⟩
  · have hp5 : s5.heap.get? p.1 = some p.2 := I5.base.keep p.1 p.2 P3.1 P3.2.1 offst (by simp [nep])
    have ⟨its5, rv5, pl5, _⟩ := I5.list hq5
    refine HotX2.list_ends ⟨hh, p.2, ws, hp5, pd, pc⟩ nep st5 pl5.isList (by have := rv5.length; simp; omega) fun h6 ext => ?_
    have I6 := fpOk_turned I5 (fpB I5 n5) ext
    have I7 : Inv X pins σ H5 { s5 with heap := h6 } := I3.call' (ch := [it]) I6.os I6.base I6.hok I6.bare fun b m => by
      rw [List.mem_singleton] at m
      subst m
      exact ⟨fp3.2.2.2.1, fp3.2.1, fp3.2.2.2.2.1, fp3.2.2.2.2.2⟩
    have nC : H5 s3.heap.objs.size = none := cL ▸ I6.free
    have ⟨m, hn, _⟩ := I6.loc
    have f := I3.fpOk (Nat.le_refl _) nC
    exact ⟨m, cL ▸ hn, fun h8 sb => ⟨.ref D, H5, fpOk_turned I7 f fun b o nb e => (sb.2 b nb).trans e, rfl, qq⟩⟩
  · have ⟨its5, rv5, pl5, _⟩ := I5.list hq5
    have ⟨u, hu, ru⟩ := rv5.get hy
    refine wpAny_pyNext_list_item st5 pl5.isList (x := u) (by simpa using hu) fun h6 st6 sb => ?_
    have I6 := fpOk_turned I5 (fpB I5 n5) fun b o nb e => (sb.2 b nb).trans e
    have ⟨oi, gi, ci, di⟩ := id st6
    refine go_of (s := { s5 with heap := h6 }) gi ci di (by decide) ?_
    have I7 : Inv (X.blk s3 H3 scope ce [it]) [(it, oi)] (wipe σ (own.map (·.2))) H5 { s5 with heap := h6 } := I6.pins_of fun r m => by
      rw [List.mem_singleton] at m
      subst m
      exact ⟨gi, n5, (I6.ok.exf it (by simp)).1, I6.ok.exfs it (by simp), fun v z => by rw [di] at z; cases z⟩
    refine thnF (pg.run _ _ _ H5 y u _ I7 ru (step y H5 ⟨rfl, fun ys hys => (I5.list_inj hys hq5) ▸ hy⟩)) fun _ s8 ⟨σ8, H8, I8, hw8, q8⟩ => ?_
    refine thnF (pt.run _ s8 σ8 H8 _ I8 q8) fun b s9 ⟨H9, I9, q9⟩ => ?_
    have done : ∀ {s' : Shared} {H' : Hp}, Inv (X.blk s3 H3 scope ce [it]) [(it, oi)] σ8 H' s' → Nx H' → ∃ m, m < n ∧ ∃ i H', Inv (X.blk s3 H3 scope ce [it]) [] (wipe σ (own.map (·.2))) H' s' ∧ s'.heap.IsListIter it a i ∧ H' it = none ∧ W i m H' := fun {s' H'} J nx => by
      have ⟨m', lt, w'⟩ := hNx H' nx
      have z := J.pin (it, oi) (by simp)
      refine ⟨m', lt, i + 1, H', (J.pins_of (pins' := []) fun r m => absurd m (by simp)).weak (by rw [← hw8, wipe_length]) (fun j v e => ?_), st6.at (fun o e => ?_), z.2.1, w'⟩
      · rw [← hw8] at e
        exact (wipe_some e).1
      · have e' : h6.get? it = some o := e
        rw [gi] at e'
        exact e' ▸ z.1
    cases b with
    | false => exact done I9 q9
    | true => exact thnF (pe.run _ s9 σ8 H9 _ I9 q9) fun z s10 ⟨yv, H10, I10, r10, acc, hD10, hz10, nx⟩ => app_ok (X := X.blk s3 H3 scope ce [it]) I10 hD10 hz10 r10 fun s11 I11 => done I11 nx
end
end L2
namespace L2
open PySem PySem.Spec PyProof.Rows
/-! ## a def that is asked about the error p, which is being handled -/
structure FnE (P : Program) (w : World) (K : PySem.W.Frag) (mg : Str → Option Value) (base : Heap) (k : Nat) (f : Addr) (fd : FuncData) (ps : List Str) (sp : Addr × Obj → Sp) : Prop where
  len : ∀ p vs H Q E, sp p vs H Q E → vs.length = ps.length
  run : ∀ (p : Addr × Obj) (A : Around) (outer : List Env) (z : Shared) (H : Hp) (args : Args) (us : List Value) (vs : List V) (Q : VK), L2H.RoomH k A → L2H.Hot1 A p → L2H.PinOk outer H z p → Env0 P w K mg base A outer z H → BindsTo z fd args (ps.zip us) → Vals vs us → sp p vs H Q E0 →
    codeAny (model P w) A (.call (.ref f) args) (CR CX0 outer P w H z Q E0) z
theorem fn_ofE {P : Program} {w : World} {K : PySem.W.Frag} {mg : Str → Option Value} {base : Heap} {k : Nat} {f : Addr} {nm qual : Str} {pars : Arguments} {body : List Stmt} {sc : Scope} {dV kV doc pm cdv ct oc : Value} {an od : Option Addr}
    {osl : Array (Option Value)} {N ps : List Str} {sp : Addr × Obj → Sp} (lk : K.lookup f = some ⟨oc, od, .func (PySem.W.fnOf nm qual pars body sc dV kV doc pm an cdv ct), osl⟩) (hcd : PySem.W.codeIn K cdv qual = true) (Sc : FnScope N ps sc)
    (len : ∀ p vs H Q E, sp p vs H Q E → vs.length = ps.length)
    (hbody : ∀ (p : Addr × Obj) (A : Around) (outer : List Env) (z : Shared) (H : Hp) (vs : List V) (Q : VK), L2H.Hot1 A p → L2H.RoomH k (A.deeper (envOfC qual sc z.heap.objs.size f cdv)) → sp p vs H Q E0 →
      ∃ t, PSs (L2H.cxH CX0 P w K mg base N qual sc f cdv A outer z H E0 p) body t ∧ t { nx := fun _ H' => Q .non H', rt := Q } (L2.start N vs) H) :
    FnE P w K mg base (k + 1) f (PySem.W.fnOf nm qual pars body sc dV kV doc pm an cdv ct) ps sp := by
  refine ⟨len, fun p A outer z H args us vs Q room hot pin e0 hb r want => ?_⟩
  have n := len _ _ _ _ _ want
  have up : ∀ b o, base.get? b = some o → z.heap.get? b = some o := fun b o e => (e0.bs b o e).1
  have KZ : K.In z.heap := e0.mod.kin.keeps up
  refine codeAny_call_function room.depth (KZ _ _ lk) rfl Sc.co Sc.gen rfl (PySem.W.codeRec_of KZ hcd) (hb _ _ _ _ ?_)
  refine wpAny_newFunctionEnv_cells Sc.kind (fun q m => ?_) fun env he z1 x => ?_
  · rcases Sc.par q.1 (List.of_mem_zip m).1 with c | c
    · exact .inl c
    · exact .inr ⟨c, PySem.W.cellsFrom_some _ _ _ (.inl c)⟩
  subst he
  refine ⟨(e0.mod.nolimit.keeps up).keeps x.toInCall.keep, codeAny_func ?_⟩
  have ⟨t, ht, hq⟩ := hbody p A outer z H vs Q hot (room.deeper _) want
  have I := L2H.inv_startH (CX := CX0) (P := P) (w := w) (qual := qual) (f := f) (cd := cdv) (E := E0) Sc pin e0 n r x
  refine wpAny_mono (ht.run [] z1 (L2.start N vs) H _ I hq) (fun fl z2 out => ?_) fun _ _ no => no
  match fl, out with
  | .ret _, ⟨v, _, H1, J, rv, q⟩ => exact ⟨v, H1, J.os, J.bare, J.base, J.hok, rv, q⟩
  | .next, ⟨_, H1, J, q⟩ => exact ⟨V.non, H1, J.os, J.bare, J.base, J.hok, rfl, q⟩
  | .brk, ⟨_, _, _, q⟩ => exact q.elim
  | .cont, ⟨_, _, _, q⟩ => exact q.elim
def tCallE (p : Addr × Obj) (sp : Addr × Obj → Sp) (t : TA) : TE := fun σ H Q => t σ H fun vs H1 => sp p vs H1 Q E0
section
variable {X : Cx} {k : Nat} {f : Addr} {fd : FuncData} {ps : List Str} {sp : Addr × Obj → Sp} {x : Str} {q pos : Pos} {e : Expr} {es : List Expr} {t : TA} {p : Addr × Obj}
theorem pe_callE (F : FnE X.prog X.w X.K X.mg X.base k f fd ps sp) (room : L2H.RoomH k X.A) (hot : L2H.Hot1 X.A p) (hp : p ∈ X.pn) (hg : Gl X x) (hm : X.mg x = some (.ref f)) (hk : PySem.W.keepIn X.K (.ref f) = true) (hb : Binds X.K fd ps [])
    (ha : PA X (e :: es) t) (db : (x == ("__debug__" : Str)) = false := by decide) (he : starEach (e :: es) X.env = (false, eval e X.env) :: starEach es X.env := by rfl) (hpl : (backTo pos (starEach es X.env)).any (·.1) = false := by rfl) :
    PE X (.Call (.Name x q) (e :: es) [] pos) (tCallE p sp t) := by
  constructor
  intro pins z σ H Q I h
  refine wpAny_Call_Name_kw (ld_glob I hg hm ?_ db)
  refine PySem.W.callWith_K (h₀ := X.base) I.ok.mod.kin hk (thn (ha.run pos pins z σ H _ I h) fun us z1 out => ?_) he hpl
  have ⟨vs, H1, I1, r, want⟩ := out
  refine ⟨I1.kIn, ?_⟩
  have b := hb z1 us I1.kIn (by rw [List.append_nil, ← r.length]; exact F.len _ _ _ _ _ want)
  rw [List.append_nil] at b
  have g := I1.pin p (List.mem_append_left _ hp)
  have pin : L2H.PinOk X.stack H1 z1 p := ⟨g.1, g.2.1, fun m => (List.mem_cons.mp (I1.stkSub p.1 m)).elim g.2.2.1 g.2.2.2.1, g.2.2.2.2⟩
  refine wpAny_call (codeAny_mono (F.run p X.A X.stack z1 H1 ⟨us, []⟩ us vs Q room hot pin I1.env0 b r want) fun r z2 out => ?_)
  match r, out with
  | .ok (.ret _), c => exact I1.after c
/-- isinstance(e, c), e the error p, which has a dict -/
def rIsEx (K : PySem.W.Frag) (p : Addr × Obj) : List V → Hp → VK → Prop := fun xs H Q => ∃ (D : Addr) (c : V) (cv : Value) (b : Bool) (dd : Addr) (fs : List (Str × V)), xs = [.ref p.1, c] ∧ (∀ u, RelV c u → u = cv) ∧ ExcC K D ∧ Zc (.ref D) (some dd) p.2 ∧ (∃ vs, p.2.data = .fields vs) ∧ H dd = some (.xd fs) ∧
  PySem.W.kitOne K (.ref D) cv = some b ∧ Q (.bl b) H
theorem call_isEx (hp : p ∈ X.pn) : CallR X (.builtin "isinstance") (rIsEx X.K p) := by
  intro pins z σ H xs us Q I r h
  have ⟨D, c, cv, b, dd, fs, ex, hcv, C, hz, ⟨vs, hv⟩, hdd, e, q⟩ := h
  subst ex
  match us, r with
  | [_, _], .cons rx (.cons rt .nil) =>
    cases rx
    cases hcv _ rt
    have ⟨mA, hns, _⟩ : ObjOk X.prog X.w H z.heap dd (.xd fs) := I.hok dd _ hdd
    have ⟨od, ho, _⟩ := lookIn_ns hns
    have here := (I.pin p (List.mem_append_left _ hp)).1
    have J : PySem.W.InstAt z.heap p.1 p.2 D (some od) := ⟨here, hz.1, by unfold PySem.W.notCls; rw [hv] <;> rfl, by rw [hz.2]; exact ho⟩
    have ⟨cdD, hcD, _⟩ := PySem.W.any_some C.hd
    refine PySem.W.kia_one (PySem.W.kitx_exc (gt := none) (by rw [hcD]; rfl) C.hg C.hk C.hs C.ha C.hn C.ht C.hm) I.kIn J e (fun z => nomatch z) fun tk => ?_
    exact ⟨.bl b, H, I.kept (t' := tk) fun _ _ z => z, rfl, q⟩
end
/-! ## defs that may raise -/
/-- an error of the class C with the attributes fs -/
def Boom (C : Addr) (fs : List (Str × V)) (H : Hp) (E : XK) : Prop := ∀ H' d, Same H H' → H d = none → H' d = some (.xd fs) → E (.ref C) (some d) H'
section
variable {P : Program} {w : World} {K : PySem.W.Frag} {mg : Str → Option Value} {base : Heap} {k : Nat} {f : Addr} {fd : FuncData} {ps : List Str} {sp sp' : Sp} {CX : CXT}
/-- where nothing is let out, any way of letting out will do -/
theorem FnOk.free (F : FnOk P w K mg base CX0 k f fd ps sp) : FnOk P w K mg base CX k f fd ps sp := by
  refine ⟨F.len, fun A outer s H args us vs Q E hr e0 hb hv h => codeAny_mono (F.run A outer s H args us vs Q E hr e0 hb hv h) fun r s' out => ?_⟩
  match r, out with
  | .ok (.ret _), c => exact c
theorem FnOk.or (F : FnOk P w K mg base CX k f fd ps sp) (G : FnOk P w K mg base CX k f fd ps sp') : FnOk P w K mg base CX k f fd ps (fun vs H Q E => sp vs H Q E ∨ sp' vs H Q E) :=
  ⟨fun vs H Q E h => h.elim (F.len vs H Q E) (G.len vs H Q E), fun A outer s H args us vs Q E hr e0 hb hv h => h.elim (F.run A outer s H args us vs Q E hr e0 hb hv) (G.run A outer s H args us vs Q E hr e0 hb hv)⟩
/-- the rule of a def that may raise -/
theorem Fun.okN {x qual : Str} {st : Stmt} {N : List Str} (F : Fun K x qual st f fd) (S : FnScope N ps (defScope st)) (len : ∀ vs H Q E, sp vs H Q E → vs.length = ps.length)
    (body : ∀ (cdv : Value) (A : Around) (outer : List Env) (s : Shared) (H : Hp) (vs : List V) (Q : VK) (E : XK), Room k (A.deeper (envOfC qual (defScope st) s.heap.objs.size f cdv)) → sp vs H Q E →
      ∃ t, PSs (cxOf (L2N.CX P w) P w K mg base N qual (defScope st) f cdv A outer s H E) (defBody st) t ∧ t { nx := fun _ H' => Q .non H', rt := Q } (L2.start N vs) H) : FnOk P w K mg base (L2N.CX P w) (k + 1) f fd ps sp := by
  have ⟨oc, od, kV, doc, pm, an, cdv, ct, osl, e, lk, hcd⟩ := F.ex
  subst e
  exact fn_of lk hcd S len fun A outer s H vs Q E hr h => body cdv A outer s H vs Q E hr h
end
section
variable {X : Cx} {W : WX}
theorem takesF : L2N.Takes X (fun _ _ _ _ => False) := fun _ _ x => by
  have ⟨_, _, _, _, _, _, _, _, _, _, _, _, _, _, _, _, z⟩ := x
  exact z.elim
/-- in a try's body: what the clauses wish for, at any slots -/
def eAll (n : Nat) (W : WX) : XK := fun cls d H => ∀ σ : L2.St, σ.length = n → W cls d σ H
theorem passTry (n : Nat) (tk : L2N.Takes X W) (hn : X.N.length = n := by rfl) : Passes (L2N.CX X.prog X.w) X (eAll n W) := fun _ σ _ _ e s' I c => tk e s' (L2N.XE.of_call I (fun _ _ _ h => h σ (I.len.trans hn)) c)
/-- in a def that may raise -/
theorem passUp {E : XK} (tk : L2N.Takes X (fun cls d _ H => E cls d H)) : Passes (L2N.CX X.prog X.w) X E := L2N.passes_call tk fun _ _ _ _ h => h
theorem slot_set {σ : L2.St} {i n : Nat} {v : Option V} (h : σ.length = n) (hi : i < n) : (σ.set i v)[i]? = some v := by
  rw [List.getElem?_set_self (by omega)]
end
end L2
namespace L2
open PySem PySem.Spec PyProof.Rows
/-! ## own operators of an instance with a dict -/
section
variable {X : Cx} {CX : CXT} {k : Nat} {C f : Addr} {fd : FuncData} {ps : List Str} {sp : Sp} {E : XK} {a b : Expr} {ta tb : TE} {pos : Pos}
end
end L2
namespace PySem
open AutoSeq1 (wpAny_loadPart')
theorem meets_enumerate_new1 {v : Value} {o : Obj} {H : Heap → Prop} (B : Begins v o H) :
    Meets (Builtin.«enumerate.__new__» ⟨[.type "enumerate", v], []⟩) (fun _ R s => H s.heap ∧
      R (.ok (.ret (.ref (s.heap.push o).objs.size))) { s with heap := (s.heap.push o).push { cls := .type "enumerate", data := .fields #[.none, .bool false, .ref s.heap.objs.size, rawInt 0, .none, .none] } }) :=
  .of_wp fun prog w A R s h => by
    obtain ⟨hp, g, d, tk, os⟩ := s; obtain ⟨h1, h⟩ := h
    have hsub := sub_enumerate
    have q1 : ∀ {A' : Around} {E : Value → Shared → Prop} {Q : Value → Shared → Prop}, Q (.ref hp.objs.size) ⟨hp.push o, g, d, tk, os⟩ → wpAny (model prog w) A' (pyIter v) Q E ⟨hp, g, d, tk, os⟩ :=
      fun q => B.iter prog w _ _ ⟨hp, g, d, tk, os⟩ _ h1 q
    wp_walk using q1
    refine wpAny_stack_any fun st => wpAny_pure ?_
    split
    · rename_i c _ _ _ _ _
      cases (c == Value.type "enumerate")
      · wp_walk using q1
        exact ⟨_, rfl, h⟩
      · wp_walk using q1
        exact ⟨_, rfl, h⟩
    · wp_walk using q1
      exact ⟨_, rfl, h⟩
section
variable {prog : Program} {w : World} {A : Around} {E : Value → Shared → Prop} {s : Shared}
theorem enum_begins1 {v : Value} {o : Obj} {H : Heap → Prop} {Q : Value → Shared → Prop} (B : Begins v o H) (h1 : H s.heap)
    (h : ∀ h', IsEnum h' (s.heap.objs.size + 1) s.heap.objs.size 0 .none → h'.get? s.heap.objs.size = some o → h'.objs.size = s.heap.objs.size + 2 →
      (∀ b o, s.heap.get? b = some o → h'.get? b = some o) → Q (.ref (s.heap.objs.size + 1)) { s with heap := h' }) :
    wpAny (model prog w) A (call (.type "enumerate") [v]) Q E s := by
  refine callType_new F.called_enumerate (by decide) (F.typeCall_enumerate_1 _) (F.newCall_enumerate_1 _) (fun obj => F.args_object_init_2 obj _) F.entry_enumerate_new
    (meets_enumerate_new1 B) ⟨h1, ?_⟩
  have hz : (s.heap.push o).objs.size = s.heap.objs.size + 1 := Heap.size_push ..
  show _ ∧ _
  rw [hz]
  have he : IsEnum ((s.heap.push o).push { cls := .type "enumerate", data := .fields #[.none, .bool false, .ref s.heap.objs.size, rawInt 0, .none, .none] }) (s.heap.objs.size + 1) s.heap.objs.size 0 .none := by
    have := Heap.get?_push_size (s.heap.push o) (o := { cls := .type "enumerate", data := .fields #[.none, .bool false, .ref s.heap.objs.size, rawInt 0, .none, .none] }) rfl
    rw [hz] at this; exact this
  refine ⟨⟨_, he, rfl⟩, h _ he (Heap.get?_push_of_some _ (Heap.get?_push_size _ B.free)) (by rw [Heap.size_push, hz]) fun b o x => Heap.get?_push_of_some _ (Heap.get?_push_of_some _ x)⟩
end
end PySem
namespace L2
open PySem PySem.Spec PyProof.Rows
/-- the tuple at a, each item in a new pair -/
def Itet (K : PySem.W.Frag) (a : Addr) : It :=
  ⟨fun i H => ∃ (xs : List V) (x : V), SqT K H a xs ∧ xs[i]? = some x, fun i H v H' => ∃ T x, v = .ref T ∧ H T = none ∧ H' = upd H T (.tup [.int (i : Nat), x]) ∧ ∀ xs, SqT K H a xs → xs[i]? = some x, fun i H => ∃ xs : List V, SqT K H a xs ∧ xs.length = i⟩
theorem tup_ne_iter {h : Heap} {a it : Addr} {items : Array Value} {i : Nat} (p : h.IsTuple a items) (q : h.IsTupleIter it a i) : a ≠ it := fun z => by
  obtain ⟨o, h1, h2, _⟩ := p
  obtain ⟨o', h3, h4, _⟩ := q
  rw [z, h3] at h1
  cases h1
  rw [h4] at h2
  injection h2 with h2
  exact absurd h2 (by decide)
theorem turn_enumT {P : Program} {w : World} {K : PySem.W.Frag} {elts : List Expr} {kk : Nat} {tpos : Pos} (a e it : Addr) :
    Turn P w K (.Tuple elts kk tpos) (Itet K a) [e, it] e (fun i h => (∃ old, IsEnum h e it ((i : Nat) : Int) old) ∧ h.IsTupleIter it a i ∧ e ≠ it) where
  mem := by simp
  obj := fun i h st b hb => by
    obtain ⟨⟨old, he⟩, ⟨o, ho, hc, hd⟩, _⟩ := st
    have e' : b = e ∨ b = it := by simpa using hb
    rcases e' with z | z
    · rw [z]; exact ⟨_, he, fun v q => nomatch q⟩
    · rw [z]; exact ⟨o, ho, fun v q => by rw [hd] at q; cases q⟩
  keep := fun i h h' st k => let ⟨⟨old, he⟩, hi, hne⟩ := st; ⟨⟨old, k e (by simp) _ he⟩, hi.at fun o q => k it (by simp) o q, hne⟩
  item := by
    intro X hP hw hK hc i pins s σ H E I hf st hg
    subst hP hw hK
    obtain ⟨⟨old, he⟩, hit, hne⟩ := st
    obtain ⟨xs, x, hq, hx⟩ := hg
    obtain ⟨its, rv, p, hz⟩ := I.tuple hq
    obtain ⟨u, hu, ru⟩ := rv.get hx
    have p' : s.heap.IsTuple a its.toArray := p
    have hai := tup_ne_iter p' hit
    have hea : e ≠ a := fun z => by
      obtain ⟨o, h1, h2, _⟩ := p'
      rw [← z, he] at h1
      cases h1
      replace h2 : Value.type "enumerate" = Value.type "tuple" := h2
      injection h2 with h2
      exact absurd h2 (by decide)
    have hel : e < s.heap.objs.size := Heap.lt_size he
    have hil : it < s.heap.objs.size := by obtain ⟨_, q, _⟩ := id hit; exact Heap.lt_size q
    have hi : i < its.toArray.size := by
      have := (List.getElem?_eq_some_iff.mp hu).1
      simpa using this
    have D := Draws.tuple (prog := X.prog) (w := X.w) (A := X.A.in1) (show X.A.in1.handled = none from I.ok.hd hc) it a hai its.toArray
    refine wpAny_pyNext_enum_itemD D he ⟨hit, p'⟩ hi hne (by simp [hne, hea]) fun x' h' tk hP ho st' hT hsz hk => ?_
    have ex : x' = u := by
      have : its[i]? = some x' := by simpa using hP
      rw [hu] at this
      exact (Option.some.inj this).symm
    subst ex
    refine ⟨_, rfl, wpAny_letOwnedTupleGo_enum (s := { s with heap := h', toks := tk + 1 }) ho fun h'' he' sb => ?_⟩
    have hT2 : h''.get? s.heap.objs.size = some { cls := .type "tuple", data := .seq #[.int i tk, x'] } := (sb.2 _ (Nat.ne_of_gt hel)).trans hT
    have new : ObjOk X.prog X.w (upd H s.heap.objs.size (.tup [.int (i : Nat), x])) h'' s.heap.objs.size (.tup [.int (i : Nat), x]) :=
      ⟨by show 2 ≤ sizeLine; decide, [.int i tk, x'], .cons ⟨_, rfl⟩ (.cons ru .nil), ⟨_, hT2, rfl, _, rfl⟩⟩
    have I1 : Inv X pins σ (upd H s.heap.objs.size (.tup [.int (i : Nat), x])) { s with heap := h'', toks := tk + 1 } :=
      I.turnedNew (ch := [e, it]) (fun b ob hb q => (sb.2 b (fun z => hb (by simp [z]))).trans (hk b ob (fun z => hb (by simp [z])) (fun z => hb (by simp [z])) q)) hf (Nat.le_refl _) new
    refine ⟨.ref s.heap.objs.size, _, I1, rfl, ⟨_, x, rfl, I.hok.fresh (Nat.le_refl _), rfl, fun ys hy => by rw [I.tuple_inj hy hq]; exact hx⟩, ⟨⟨x', ?_⟩, st'.1.at fun o q => (sb.2 it (Ne.symm hne)).trans q, hne⟩, fun b hb => ?_⟩
    · have e1 : ((i + 1 : Nat) : Int) = (i : Int) + 1 := by omega
      rw [e1]; exact he'
    · have hb' : b < s.heap.objs.size := by
        have e' : b = e ∨ b = it := by simpa using hb
        rcases e' with z | z
        · rw [z]; exact hel
        · rw [z]; exact hil
      rw [upd_ne (Nat.ne_of_lt hb')]
      exact (hf b hb).1
  done := by
    intro X hP hw hK hc i pins s σ H E I hf st hg
    subst hP hw hK
    obtain ⟨⟨old, he⟩, hit, hne⟩ := st
    obtain ⟨xs, hq, hx⟩ := hg
    obtain ⟨its, rv, p, hz⟩ := I.tuple hq
    have p' : s.heap.IsTuple a its.toArray := p
    have hai := tup_ne_iter p' hit
    obtain ⟨f0, f1, f2, f3, f4, f5⟩ := hf it (by simp)
    have hl := rv.length
    have en : i = its.toArray.size := by simp; omega
    subst en
    have D := Draws.tuple (prog := X.prog) (w := X.w) (A := X.A.in1) (show X.A.in1.handled = none from I.ok.hd hc) it a hai its.toArray
    exact wpAny_pyNext_enum_endD D he ⟨hit, p'⟩ fun h' eb => ⟨rfl, I.turned (t' := s.toks) (fun b o hb q => eb b o hb q) f0 f1 f3 f4 f5⟩
  self := fun A i s Q E st h => let ⟨⟨_, he⟩, _⟩ := st; wpAny_pyIter_enum he h
def iEnumT (K : PySem.W.Frag) (ta : TA) : TI := fun σ H R => ta σ H fun vs H1 => ∃ a xs, vs = [.ref a] ∧ SqT K H1 a xs ∧ R (Itet K a) H1
theorem pi_enumT {X : Cx} {e : Expr} {ta : TA} {p pos tpos : Pos} {elts : List Expr} {kk : Nat} (hg : Gl X "enumerate") (hm : X.mg "enumerate" = none) (ha : PA X [e] ta) (hs : starEach [e] X.env = [(false, eval e X.env)] := by rfl) :
    PI X (.Tuple elts kk tpos) (.Call (.Name "enumerate" p) [e] [] pos) (iEnumT X.K ta) := by
  refine ⟨fun pins s σ H R I h => ?_⟩
  refine Call_ (ld_blt I hg hm boot_enumerate (PyProof.Rows.callWith_type1 (thn (ha.run pos pins s σ H _ I h) fun us s1 ⟨vs, H1, I1, r1, q1⟩ => ?_) hs rfl))
  obtain ⟨a, xs, ex, hq, q⟩ := q1
  subst ex
  cases r1 with
  | cons r rr =>
    cases rr
    cases r
    obtain ⟨its, rv, p', hz⟩ := I1.tuple hq
    refine enum_begins1 (begins_tuple a its.toArray) (show s1.heap.IsTuple a its.toArray from p') fun h' he hit hsz hk => wpAny_pyIter_enum he ?_
    have I2 : Inv X pins σ H1 { s1 with heap := h' } := I1.kept (t' := s1.toks) hk
    refine ⟨s1.heap.objs.size + 1, [s1.heap.objs.size + 1, s1.heap.objs.size], _, _, H1, rfl, I2, turn_enumT a (s1.heap.objs.size + 1) s1.heap.objs.size, ⟨⟨.none, he⟩, ⟨_, hit, rfl, rfl⟩, Nat.succ_ne_self _⟩, fun b hb => ?_, q⟩
    have e' : b = s1.heap.objs.size + 1 ∨ b = s1.heap.objs.size := by simpa using hb
    have hle : s1.heap.objs.size ≤ b := by
      rcases e' with z | z
      · rw [z]; exact Nat.le_add_right _ _
      · rw [z]; exact Nat.le_refl _
    exact I1.fpOk hle (I1.hok.fresh hle)
end L2
namespace Toy
open PySem L2
/-! ### data -/
def vI (ns : List Int) : List V := ns.map V.int
def asc (ns : List Int) (n : Nat) : List Int := ((List.range n).filter fun (i : Nat) => decide ((i : Int) ∈ ns)).map fun (i : Nat) => (i : Int)
def isW (n : Nat) (x : Int) : Bool := decide (0 ≤ x) && decide (x < (n : Int))
/-- a list or a tuple of the vI ns -/
def Sq (K : PySem.W.Frag) (H : Hp) (a : Addr) (ns : List Int) : Prop := SqL K H a (vI ns) ∨ SqT K H a (vI ns)
theorem inV_vI (x : Int) : ∀ ns : List Int, inV (.int x) (vI ns) = decide (x ∈ ns)
  | [] => by simp [inV, vI]
  | y :: r => by
    have ih := inV_vI x r
    show ((y == x) || inV (.int x) (vI r)) = decide (x ∈ y :: r)
    rw [ih]
    by_cases h : y = x
    · subst h
      simp
    · have h' : ¬ x = y := fun z => h z.symm
      simp [h, h']
theorem flat_vI : ∀ ns : List Int, (vI ns).all flatV = true
  | [] => rfl
  | _ :: r => flat_vI r
theorem Sq.same {K : PySem.W.Frag} {H H' : Hp} {a : Addr} {ns : List Int} (s : Same H H') (h : Sq K H a ns) : Sq K H' a ns := by
  rcases h with h | h
  · exact .inl (s.seq h)
  · refine .inr ?_
    rcases h with (h | ⟨o, h⟩) | h
    · exact .inl (.inl (s _ _ h))
    · exact .inl (.inr ⟨o, s _ _ h⟩)
    · exact .inr h
theorem Same.upd {H H' : Hp} {p : Addr} {o : HO} (s : Same H H') (n : H' p = none) : Same H (L2.upd H' p o) := fun b u e => by
  rw [upd_ne (ne_of_none (s b u e) n)]
  exact s b u e
theorem asc_succ (ns : List Int) (i : Nat) : asc ns (i + 1) = if (i : Int) ∈ ns then asc ns i ++ [(i : Int)] else asc ns i := by
  unfold asc
  rw [List.range_succ, List.filter_append]
  by_cases h : (i : Int) ∈ ns
  · rw [if_pos h]
    simp [h]
  · rw [if_neg h]
    simp [h]
theorem asc_len (ns : List Int) (n : Nat) : (asc ns n).length ≤ n := by
  unfold asc
  rw [List.length_map]
  exact Nat.le_trans (List.length_filter_le _ _) (by simp)
theorem yesT {σ : St} {H : Hp} {R : Bool → Hp → Prop} (h : R true H) : tYes σ H R := h
theorem vI_at {ns : List Int} {i : Nat} {y : V} (h : (vI ns)[i]? = some y) : ∃ x, ns[i]? = some x ∧ y = V.int x := by
  unfold vI at h
  rw [List.getElem?_map] at h
  cases e : ns[i]? with
  | none =>
    rw [e] at h
    cases h
  | some x =>
    rw [e] at h
    exact ⟨x, rfl, (Option.some.inj h).symm⟩
theorem take_more {α : Type} : ∀ {l : List α} {i : Nat} {x : α}, l[i]? = some x → l.take (i + 1) = l.take i ++ [x]
  | [], i, x, h => by simp at h
  | a :: l, 0, x, h => by
    have e : a = x := Option.some.inj h
    subst e
    rfl
  | a :: l, i + 1, x, h => by
    have ih := take_more (l := l) (i := i) (x := x) h
    show a :: l.take (i + 1) = a :: l.take i ++ [x]
    rw [ih]
    rfl
/-! ### the text by places -/
def top (i : Nat) : Stmt := PySem.Challenge.pw_murmurline_k03_table_made.main.body.getD i (.Pass ⟨0, 0, 0, 0⟩)
abbrev sIsSize : Stmt := top 23
abbrev sCheckSize : Stmt := top 24
abbrev sIsWord : Stmt := top 26
abbrev sAllWords : Stmt := top 27
abbrev sCheckWord : Stmt := top 28
abbrev sAsc : Stmt := top 30
/-! ### promises -/
def spIsWord : Sp := fun vs H Q _ => ∃ (x : Int) (n : Nat), vs = [.int x, .int n] ∧ Q (.bl (isW n x)) H
def spAllWords (K : PySem.W.Frag) : Sp := fun vs H Q _ => ∃ (a : Addr) (ns : List Int) (n : Nat), vs = [.ref a, .int n] ∧ SqL K H a (vI ns) ∧ ns.length < sizeLine ∧ ∀ H', Same H H' → Q (.bl (ns.all (isW n))) H'
def spAsc (K : PySem.W.Frag) : Sp := fun vs H Q _ => ∃ (a : Addr) (ns : List Int) (n : Nat), vs = [.ref a, .int n] ∧ Sq K H a ns ∧ n ≤ 6 ∧ ∀ H' p, Same H H' → H p = none → H' p = some (.lst (vI (asc ns n))) → Q (.ref p) H'
structure Bt (mg : Str → Option Value) : Prop where
  len : mg "len" = none
  range : mg "range" = none
  all : mg "all" = none
  list : mg "list" = none
  tuple : mg "tuple" = none
  enumerate : mg "enumerate" = none
  isinstance : mg "isinstance" = none
  int : mg "int" = none
  bool : mg "bool" = none
  str : mg "str" = none
  abs : mg "abs" = none
section
variable {P : Program} {w : World} {K : PySem.W.Frag} {mg : Str → Option Value} {base : Heap}
theorem scIsWord : FnScope ["word", "size"] ["word", "size"] (defScope sIsWord) := ⟨rfl, rfl, rfl, by decide +kernel, rfl, by decide +kernel, by decide +kernel⟩
theorem ok_isWord {f : Addr} {fd : FuncData} (F : Fun K "is_word" "is_word" sIsWord f fd) : FnOk P w K mg base CX0 1 f fd ["word", "size"] spIsWord := by
  refine F.ok scIsWord (fun vs H Q E h => ?_) (fun cdv A outer s H vs Q E hr h => ?_)
  · obtain ⟨x, n, rfl, _⟩ := h
    rfl
  · obtain ⟨x, n, rfl, k⟩ := h
    refine ⟨_, pss_one (ps_ret (pe_chain op_le op_lt pe_int (pv 0) (pv 1))), ?_⟩
    refine ⟨_, rfl, _, _, rfl, rfl, _, rfl, ?_⟩
    by_cases h0 : (0 : Int) ≤ x
    · rw [decide_eq_true h0]
      refine iteT ⟨_, rfl, _, _, rfl, rfl, ?_⟩
      have e : isW n x = decide (x < (n : Int)) := by unfold isW; rw [decide_eq_true h0]; rfl
      rw [e] at k
      exact k
    · rw [decide_eq_false h0]
      refine iteF ?_
      have e : isW n x = false := by unfold isW; rw [decide_eq_false h0]; rfl
      rw [e] at k
      exact k
theorem scAllWords : FnScope ["words", "size", "word"] ["words", "size"] (defScope sAllWords) := ⟨rfl, rfl, rfl, by decide +kernel, rfl, by decide +kernel, by decide +kernel⟩
theorem ok_allWords {f g : Addr} {fd fdg : FuncData} (F : Fun K "all_words" "all_words" sAllWords f fd) (B : Bt mg) (G : Fun K "is_word" "is_word" sIsWord g fdg) (mgG : mg "is_word" = some (.ref g)) (bG : Binds K fdg ["word", "size"] []) :
    FnOk P w K mg base CX0 2 f fd ["words", "size"] (spAllWords K) := by
  refine F.ok scAllWords (fun vs H Q E h => ?_) (fun cdv A outer s H vs Q E hr h => ?_)
  · obtain ⟨a, ns, n, rfl, _⟩ := h
    rfl
  · obtain ⟨a, ns, n, rfl, hS, hlen, k⟩ := h
    refine ⟨_, pss_one (ps_ret (pe_callB (cr_all rfl) (by rfl) B.all (by decide +kernel) (pa_cons (pe_lc (own := [("word", 2)]) (g := gName 2) (tt := tYes) rfl scAllWords.nd (pi_list (pv 0)) (blkOk_by (own := [("word", 2)]) (N := ["words", "size", "word"]) (sc := defScope sAllWords) (by decide +kernel))
      (fun _ _ _ _ _ => pg_name (i := 2) scAllWords.nd rfl (Or.inl rfl)) (fun _ _ _ _ _ => pts_nil)
      (fun _ _ _ _ _ => pe_call (ok_isWord G) hr rfl mgG G.kp bG .nil pass0 (pa_cons (pv 2) (pa_cons (pv 1) pa_nil)))) pa_nil))), ?_⟩
    refine ⟨_, rfl, a, rfl, ⟨_, hS⟩, fun D hD => ?_⟩
    refine lc_list (K := K) (a := a) (xs := vI ns) (fun i H' => Same H H' ∧ H' D = some (.lst ((ns.take i).map fun x => V.bl (isW n x)))) ⟨Same.upd (Same.refl H) hD, upd_same⟩ (fun i H' _ ⟨s, _⟩ => s.seq hS) ?_ ?_
    · rintro i y H' hi ⟨s, hd⟩
      obtain ⟨x, hx, rfl⟩ := vI_at hi
      refine ⟨rfl, ?_⟩
      refine yesT ?_
      refine iteT ?_
      refine ⟨_, rfl, _, rfl, x, n, rfl, ?_⟩
      refine ⟨_, hd, ?_, ?_, ?_⟩
      · rw [List.length_map]
        exact Nat.lt_of_le_of_lt (List.length_take_le' _ _) hlen
      · exact fun b u e => (ne_of_none e hD) |> fun z => by rw [upd_ne z]; exact s b u e
      · rw [upd_same, take_more hx, List.map_append]
        rfl
    · rintro H' ⟨s, hd⟩
      have el : (vI ns).length = ns.length := List.length_map ..
      rw [el, List.take_length] at hd
      refine ⟨D, ns.map (isW n), rfl, SqL.of ?_, ?_⟩
      · rw [hd, List.map_map]
        rfl
      · have := k H' s
        rw [List.all_map]
        exact this
theorem scIsSize : FnScope ["size"] ["size"] (defScope sIsSize) := ⟨rfl, rfl, rfl, by decide +kernel, rfl, by decide +kernel, by decide +kernel⟩
structure CT (K : PySem.W.Frag) (mg : Str → Option Value) (C : Addr) : Prop where
  mgC : mg "Table" = some (.ref C)
  cl : Cls K C
  rd : ClX.CRead K C (.type "type")
  most : ∃ t, PySem.W.findCls K (.ref C) (.type "type") "MOST" = some (.val (.int 6 t))
  nS : NoAttr K C "size"
  nR : NoAttr K C "_rows"
  nP : NoAttr K C "_pairs"
def spIsSize : Sp := fun vs H Q _ => ∃ n : Int, vs = [.int n] ∧ Q (.bl (decide (1 ≤ n) && decide (n ≤ 6))) H
theorem ok_isSize {f C : Addr} {fd : FuncData} (F : Fun K "is_size" "is_size" sIsSize f fd) (T : CT K mg C) : FnOk P w K mg base CX0 1 f fd ["size"] spIsSize := by
  refine F.ok scIsSize (fun vs H Q E h => ?_) (fun cdv A outer s H vs Q E hr h => ?_)
  · obtain ⟨n, rfl, _⟩ := h
    rfl
  · obtain ⟨n, rfl, k⟩ := h
    obtain ⟨t, hm⟩ := T.most
    refine ⟨_, pss_one (ps_ret (pe_chain op_le op_le pe_int (pv 0) (ClX.pe_cval (pe_glob rfl T.mgC (v := .ref C) rfl)))), ?_⟩
    refine ⟨_, rfl, _, _, rfl, rfl, _, rfl, ?_⟩
    by_cases h0 : (1 : Int) ≤ n
    · rw [decide_eq_true h0] at k ⊢
      refine iteT ⟨C, _, .int 6, _, rfl, T.rd, ⟨hm, _, rfl⟩, _, _, rfl, rfl, ?_⟩
      exact k
    · rw [decide_eq_false h0] at k ⊢
      refine iteF ?_
      exact k
theorem scCheckSize : FnScope ["size"] ["size"] (defScope sCheckSize) := ⟨rfl, rfl, rfl, by decide +kernel, rfl, by decide +kernel, by decide +kernel⟩
def spCheckSize : Sp := fun vs H Q _ => ∃ n : Int, vs = [.int n] ∧ 1 ≤ n ∧ n ≤ 6 ∧ Q .non H
theorem ok_checkSize {f g C : Addr} {fd fdg : FuncData} (F : Fun K "check_size" "check_size" sCheckSize f fd) (T : CT K mg C) (G : Fun K "is_size" "is_size" sIsSize g fdg) (mgG : mg "is_size" = some (.ref g)) (bG : Binds K fdg ["size"] []) :
    FnOk P w K mg base CX0 2 f fd ["size"] spCheckSize := by
  refine F.ok scCheckSize (fun vs H Q E h => ?_) (fun cdv A outer s H vs Q E hr h => ?_)
  · obtain ⟨n, rfl, _⟩ := h
    rfl
  · obtain ⟨n, rfl, h1, h2, k⟩ := h
    refine ⟨_, pss_one (ps_if (pt_not (pt_val (pe_call (ok_isSize G T) hr rfl mgG G.kp bG .nil pass0 (pa_cons (pv 0) pa_nil)))) (pss_one ps_never) pss_nil), ?_⟩
    refine ⟨_, rfl, n, rfl, _, rfl, ?_⟩
    rw [decide_eq_true h1, decide_eq_true h2]
    exact iteF k
theorem scCheckWord : FnScope ["word", "size"] ["word", "size"] (defScope sCheckWord) := ⟨rfl, rfl, rfl, by decide +kernel, rfl, by decide +kernel, by decide +kernel⟩
def spCheckWord : Sp := fun vs H Q _ => ∃ (x : Int) (n : Nat), vs = [.int x, .int n] ∧ isW n x = true ∧ Q .non H
theorem ok_checkWord {f g : Addr} {fd fdg : FuncData} (F : Fun K "check_word" "check_word" sCheckWord f fd) (G : Fun K "is_word" "is_word" sIsWord g fdg) (mgG : mg "is_word" = some (.ref g)) (bG : Binds K fdg ["word", "size"] []) :
    FnOk P w K mg base CX0 2 f fd ["word", "size"] spCheckWord := by
  refine F.ok scCheckWord (fun vs H Q E h => ?_) (fun cdv A outer s H vs Q E hr h => ?_)
  · obtain ⟨x, n, rfl, _⟩ := h
    rfl
  · obtain ⟨x, n, rfl, h1, k⟩ := h
    refine ⟨_, pss_one (ps_if (pt_not (pt_val (pe_call (ok_isWord G) hr rfl mgG G.kp bG .nil pass0 (pa_cons (pv 0) (pa_cons (pv 1) pa_nil))))) (pss_one ps_never) pss_nil), ?_⟩
    refine ⟨_, rfl, _, rfl, x, n, rfl, _, rfl, ?_⟩
    rw [h1]
    exact iteF k
theorem scAsc : FnScope ["words", "size", "word"] ["words", "size"] (defScope sAsc) := ⟨rfl, rfl, rfl, by decide +kernel, rfl, by decide +kernel, by decide +kernel⟩
theorem ok_asc {f : Addr} {fd : FuncData} (F : Fun K "ascending" "ascending" sAsc f fd) (B : Bt mg) : FnOk P w K mg base CX0 1 f fd ["words", "size"] (spAsc K) := by
  refine F.ok scAsc (fun vs H Q E h => ?_) (fun cdv A outer s H vs Q E hr h => ?_)
  · obtain ⟨a, ns, n, rfl, _⟩ := h
    rfl
  · obtain ⟨a, ns, n, rfl, hS, hn, k⟩ := h
    refine ⟨_, pss_one (ps_ret (pe_lc (own := [("word", 2)]) (g := gName 2) (tt := tTest (tOp (rIn K false) (tVar 2) (tVar 0))) rfl scAsc.nd (pi_range1 (by rfl) B.range (pa_cons (pv 1) pa_nil)) (blkOk_by (own := [("word", 2)]) (N := ["words", "size", "word"]) (sc := defScope sAsc) (by decide +kernel))
      (fun _ _ _ _ _ => pg_name (i := 2) scAsc.nd rfl (Or.inl rfl)) (fun _ _ _ _ _ => pts_one (pt_cmpR op_in_seq (pv 2) (pv 0) (by rfl)))
      (fun _ _ _ _ _ => pv 2))), ?_⟩
    refine ⟨_, rfl, n, rfl, by omega, by omega, fun D hD => ?_⟩
    refine lc_range (lo := 0) (n := n) (fun i H' => Same H H' ∧ H' D = some (.lst (vI (asc ns i)))) ⟨Same.upd (Same.refl H) hD, upd_same⟩ ?_ ?_
    · rintro i H' hi ⟨s, hd⟩
      refine ⟨rfl, ?_⟩
      refine ⟨_, rfl, _, rfl, a, _, rfl, hS.same s, rfl, flat_vI ns, _, rfl, ?_⟩
      have e0 : (0 : Int) + (i : Int) = (i : Int) := by omega
      rw [e0]
      show if (if false = true then !inV (.int (i : Int)) (vI ns) else inV (.int (i : Int)) (vI ns)) = true then _ else _
      rw [if_neg Bool.false_ne_true, inV_vI, asc_succ]
      by_cases hm : (i : Int) ∈ ns
      · rw [decide_eq_true hm, if_pos hm]
        refine iteT ?_
        refine ⟨_, rfl, _, hd, ?_, ?_, ?_⟩
        · show (vI (asc ns i)).length < sizeLine
          unfold vI
          rw [List.length_map]
          exact Nat.lt_of_le_of_lt (asc_len ns i) (Nat.lt_of_lt_of_le (Nat.lt_of_lt_of_le hi hn) (by decide))
        · exact fun b u e => (ne_of_none e hD) |> fun z => by rw [upd_ne z]; exact s b u e
        · rw [upd_same]
          unfold vI
          rw [List.map_append]
          rfl
      · rw [decide_eq_false hm, if_neg hm]
        exact iteF ⟨s, hd⟩
    · rintro H' ⟨s, hd⟩
      exact k H' D s hD hd
end
end Toy
namespace L2
open PySem PySem.Spec PyProof.Rows
section
variable {J : It} {n : Nat} {G : Hp → Prop} {Y : Nat → Hp → V → Hp → Prop}
/-- the outer loop of [e for a in A for b in B] -/
theorem lc2_out (w : Walk J n G Y) {F : (Hp → Prop) → V → Hp → Prop} {H1 : Hp} {D : Addr} {Qd : Hp → Prop} (Pv : Nat → Hp → Prop) (h0 : Pv 0 (upd H1 D (.lst []))) (hG : ∀ i H, i ≤ n → Pv i H → G H)
    (hs : ∀ i x H H', i < n → Pv i H → Y i H x H' → F (Pv (i + 1)) x H') (hd : ∀ H, Pv n H → Qd H) :
    ∃ W : Nat → Nat → Hp → Prop, (∃ m, W 0 m (upd H1 D (.lst []))) ∧ ∀ i m H, W i m H →
      (J.stop i H ∧ Qd H) ∨ (J.go i H ∧ ∃ Nx : Hp → Prop, (∀ H', Nx H' → ∃ m', m' < m ∧ W (i + 1) m' H') ∧ ∀ x H', J.yld i H x H' → F Nx x H') := by
  refine ⟨fun i m H => m = n - i ∧ i ≤ n ∧ Pv i H, ⟨n, by simp, Nat.zero_le _, h0⟩, ?_⟩
  rintro i m H ⟨rfl, hi, p⟩
  have q := hG i H hi p
  by_cases hlt : i < n
  · exact .inr ⟨w.goes i H hlt q, Pv (i + 1), fun H' p' => ⟨n - (i + 1), by omega, rfl, hlt, p'⟩, fun x H' y => hs i x H H' hlt p (w.yields i H x H' hlt q y)⟩
  · have e : i = n := by omega
    subst e
    exact .inl ⟨w.stops H q, hd H p⟩
/-- the inner one -/
theorem lc2_in (w : Walk J n G Y) {F : (Hp → Prop) → V → Hp → Prop} {H1 : Hp} {Qd : Hp → Prop} (Pv : Nat → Hp → Prop) (h0 : Pv 0 H1) (hG : ∀ i H, i ≤ n → Pv i H → G H)
    (hs : ∀ i x H H', i < n → Pv i H → Y i H x H' → F (Pv (i + 1)) x H') (hd : ∀ H, Pv n H → Qd H) :
    ∃ W : Nat → Nat → Hp → Prop, (∃ m, W 0 m H1) ∧ ∀ i m H, W i m H →
      (J.stop i H ∧ Qd H) ∨ (J.go i H ∧ ∃ Nx : Hp → Prop, (∀ H', Nx H' → ∃ m', m' < m ∧ W (i + 1) m' H') ∧ ∀ x H', J.yld i H x H' → F Nx x H') := by
  refine ⟨fun i m H => m = n - i ∧ i ≤ n ∧ Pv i H, ⟨n, by simp, Nat.zero_le _, h0⟩, ?_⟩
  rintro i m H ⟨rfl, hi, p⟩
  have q := hG i H hi p
  by_cases hlt : i < n
  · exact .inr ⟨w.goes i H hlt q, Pv (i + 1), fun H' p' => ⟨n - (i + 1), by omega, rfl, hlt, p'⟩, fun x H' y => hs i x H H' hlt p (w.yields i H x H' hlt q y)⟩
  · have e : i = n := by omega
    subst e
    exact .inl ⟨w.stops H q, hd H p⟩
theorem walk_enumT {K : PySem.W.Frag} {a : Addr} {xs : List V} : Walk (Itet K a) xs.length (fun H => SqT K H a xs) (YPair (fun i => some (.int (i : Nat))) (fun i => xs[i]?)) := by
  refine ⟨fun i _ hi q => ⟨xs, xs[i], q, by simp [hi]⟩, fun _ q => ⟨xs, q, rfl⟩, fun i H v H' _ q y => ?_⟩
  obtain ⟨T, x, h1, h2, h3, h4⟩ := y
  exact ⟨T, .int (i : Nat), x, h1, h2, h3, rfl, h4 xs q⟩
end
theorem Paired.snoc {α β : Type} {F : α → β → Prop} {x : α} {y : β} (f : F x y) : ∀ {xs : List α} {ys : List β}, Paired F xs ys → Paired F (xs ++ [x]) (ys ++ [y])
  | _, _, .nil => .cons f .nil
  | _, _, .cons r t => .cons r (Paired.snoc f t)
theorem Paired.app {α β : Type} {F : α → β → Prop} : ∀ {xs zs : List α} {ys us : List β}, Paired F xs ys → Paired F zs us → Paired F (xs ++ zs) (ys ++ us)
  | _, _, _, _, .nil, s => s
  | _, _, _, _, .cons r t, s => .cons r (Paired.app t s)
theorem Paired.at {α β : Type} {F : α → β → Prop} : ∀ {xs : List α} {ys : List β} {i : Nat} {x : α}, Paired F xs ys → xs[i]? = some x → ∃ y, ys[i]? = some y ∧ F x y
  | _, _, _, _, .nil, e => by simp at e
  | _, _, 0, _, .cons r _, e => by simp at e; subst e; exact ⟨_, rfl, r⟩
  | _, _, i + 1, x, .cons _ t, e => by
    obtain ⟨u, h1, h2⟩ := Paired.at (i := i) (x := x) t (by simpa using e)
    exact ⟨u, by simpa using h1, h2⟩
theorem Paired.at2 {α β : Type} {F : α → β → Prop} : ∀ {xs : List α} {ys : List β} {i : Nat} {y : β}, Paired F xs ys → ys[i]? = some y → ∃ x, xs[i]? = some x ∧ F x y
  | _, _, _, _, .nil, e => by simp at e
  | _, _, 0, _, .cons r _, e => by simp at e; subst e; exact ⟨_, rfl, r⟩
  | _, _, i + 1, x, .cons _ t, e => by
    obtain ⟨u, h1, h2⟩ := Paired.at2 (i := i) (y := x) t (by simpa using e)
    exact ⟨u, by simpa using h1, h2⟩
theorem PairedIn.map {α β : Type} {F G : α → β → Prop} : ∀ {l₁ : List α} {l₂ : List β}, Paired F l₁ l₂ → (∀ a b, a ∈ l₁ → F a b → G a b) → Paired G l₁ l₂
  | _, _, .nil, _ => .nil
  | _, _, .cons r t, f => .cons (f _ _ List.mem_cons_self r) (PairedIn.map t fun a b h => f a b (List.mem_cons_of_mem _ h))
end L2
namespace Toy
open PySem L2
def prs (k : Nat) : List (List Int) → List (Int × Int)
  | [] => []
  | r :: R => r.map (fun x => ((k : Int), x)) ++ prs (k + 1) R
theorem prs_snoc : ∀ (k : Nat) (A : List (List Int)) (r : List Int), prs k (A ++ [r]) = prs k A ++ r.map fun x => (((k + A.length : Nat) : Int), x)
  | k, [], r => by simp [prs]
  | k, a :: A, r => by
    show a.map _ ++ prs (k + 1) (A ++ [r]) = (a.map _ ++ prs (k + 1) A) ++ _
    rw [prs_snoc (k + 1) A r, List.append_assoc]
    have e : k + 1 + A.length = k + (a :: A).length := by simp; omega
    rw [e]
theorem prs_len : ∀ (k : Nat) (A : List (List Int)), (∀ r ∈ A, r.length ≤ 6) → (prs k A).length ≤ 6 * A.length
  | k, [], _ => by simp [prs]
  | k, a :: A, h => by
    have ih := prs_len (k + 1) A fun r hr => h r (List.mem_cons_of_mem _ hr)
    have := h a List.mem_cons_self
    simp [prs]
    omega
def vP (p : Int × Int) : List V := [.int p.1, .int p.2]
end Toy
namespace Toy
open PySem L2
abbrev RowsT (H : Hp) (ts : List V) (R : List (List Int)) : Prop := Paired (fun v r => ∃ t, v = V.ref t ∧ H t = some (.tup (vI r))) ts R
abbrev RowsL (H : Hp) (ls : List V) (R : List (List Int)) : Prop := Paired (fun v r => ∃ t, v = V.ref t ∧ H t = some (.lst (vI r))) ls R
abbrev PairsT (H : Hp) (qs : List V) (P : List (Int × Int)) : Prop := Paired (fun v p => ∃ t, v = V.ref t ∧ H t = some (.tup (vP p))) qs P
theorem RowsT.same {H H' : Hp} {ts R} (s : Same H H') (h : RowsT H ts R) : RowsT H' ts R := L2.Paired.mapP h fun _ _ ⟨t, e, q⟩ => ⟨t, e, s _ _ q⟩
theorem RowsL.same {H H' : Hp} {ts R} (s : Same H H') (h : RowsL H ts R) : RowsL H' ts R := L2.Paired.mapP h fun _ _ ⟨t, e, q⟩ => ⟨t, e, s _ _ q⟩
theorem PairsT.same {H H' : Hp} {ts R} (s : Same H H') (h : PairsT H ts R) : PairsT H' ts R := L2.Paired.mapP h fun _ _ ⟨t, e, q⟩ => ⟨t, e, s _ _ q⟩
/-- the attributes of a table -/
def tf (n : Nat) (tr tp : Addr) : List (Str × V) := [("size", V.int n), ("_rows", V.ref tr), ("_pairs", V.ref tp)]
theorem sr_ : ¬ (("size" : Str) = "_rows") := by decide +kernel
theorem sp_ : ¬ (("size" : Str) = "_pairs") := by decide +kernel
theorem rp_ : ¬ (("_rows" : Str) = "_pairs") := by decide +kernel
theorem rs_ : ¬ (("_rows" : Str) = "size") := by decide +kernel
theorem ps_' : ¬ (("_pairs" : Str) = "size") := by decide +kernel
theorem pr_ : ¬ (("_pairs" : Str) = "_rows") := by decide +kernel
theorem tf_1 (n : Nat) : putF "size" (.int n) [] = ([("size", V.int n)] : List (Str × V)) := rfl
theorem tf_2 (n : Nat) (tr : Addr) : putF "_rows" (.ref tr) ([("size", V.int n)] : List (Str × V)) = ([("size", V.int n), ("_rows", V.ref tr)] : List (Str × V)) := by
  show (if ("size" : Str) = "_rows" then [(("size" : Str), V.ref tr)] else (("size" : Str), V.int n) :: putF "_rows" (V.ref tr) []) = ([("size", V.int n), ("_rows", V.ref tr)] : List (Str × V))
  rw [if_neg sr_]
  rfl
theorem tf_3 (n : Nat) (tr tp : Addr) : putF "_pairs" (.ref tp) ([("size", V.int n), ("_rows", V.ref tr)] : List (Str × V)) = tf n tr tp := by
  show (if ("size" : Str) = "_pairs" then _ else (("size" : Str), V.int n) :: (if ("_rows" : Str) = "_pairs" then _ else (("_rows" : Str), V.ref tr) :: putF "_pairs" (V.ref tp) [])) = tf n tr tp
  rw [if_neg sp_, if_neg rp_]
  rfl
theorem tf_size (n : Nat) (tr tp : Addr) : (tf n tr tp).lookup ("size" : Str) = some (.int n) := by simp [tf, List.lookup]
theorem tf_rows (n : Nat) (tr tp : Addr) : (tf n tr tp).lookup ("_rows" : Str) = some (.ref tr) := by
  have h : (("_rows" : Str) == "size") = false := by simpa using rs_
  simp [tf, List.lookup, h]
theorem tf_pairs (n : Nat) (tr tp : Addr) : (tf n tr tp).lookup ("_pairs" : Str) = some (.ref tp) := by
  have h : (("_pairs" : Str) == "size") = false := by simpa using ps_'
  have h2 : (("_pairs" : Str) == "_rows") = false := by simpa using pr_
  simp [tf, List.lookup, h, h2]
theorem tf_no (n : Nat) (tr tp : Addr) {m : Str} (h1 : (m == "size") = false) (h2 : (m == "_rows") = false) (h3 : (m == "_pairs") = false) : (tf n tr tp).lookup m = none := by
  simp [tf, List.lookup, h1, h2, h3]
theorem RowsT.updL {H : Hp} {D : Addr} {xs ys : List V} {ts R} (h : RowsT H ts R) (hd : H D = some (.lst xs)) : RowsT (upd H D (.lst ys)) ts R :=
  L2.Paired.mapP h fun _ _ ⟨t, e, q⟩ => ⟨t, e, by rw [upd_ne (ne_of q hd (fun z => nomatch z))]; exact q⟩
theorem PairsT.updL {H : Hp} {D : Addr} {xs ys : List V} {ts R} (h : PairsT H ts R) (hd : H D = some (.lst xs)) : PairsT (upd H D (.lst ys)) ts R :=
  L2.Paired.mapP h fun _ _ ⟨t, e, q⟩ => ⟨t, e, by rw [upd_ne (ne_of q hd (fun z => nomatch z))]; exact q⟩
theorem Same.updN {H H' : Hp} {D : Addr} {o : HO} (s : Same H H') (hD : H D = none) : Same H (L2.upd H' D o) := fun b u e => by
  rw [upd_ne (ne_of_none e hD)]
  exact s b u e
theorem Same.new {H : Hp} {D : Addr} {o : HO} (hD : H D = none) : Same H (L2.upd H D o) := Same.updN (Same.refl H) hD
theorem vI_len (ns : List Int) : (vI ns).length = ns.length := List.length_map ..
/-- a table stands at p, its rows R -/
def Tab (C : Addr) (H : Hp) (p : Addr) (R : List (List Int)) : Prop :=
  ∃ (dx tr tp : Addr) (ts qs : List V), H p = some (.ins C dx (tf R.length tr tp)) ∧ H dx = some (.own p) ∧ H tr = some (.tup ts) ∧ RowsT H ts R ∧ H tp = some (.tup qs) ∧ PairsT H qs (prs 0 R) ∧
    1 ≤ R.length ∧ R.length ≤ 6 ∧ ∀ r ∈ R, r.length ≤ 6
theorem Tab.same {C : Addr} {H H' : Hp} {p : Addr} {R} (s : Same H H') (h : Tab C H p R) : Tab C H' p R := by
  obtain ⟨dx, tr, tp, ts, qs, h1, h2, h3, h4, h5, h6, h7⟩ := h
  exact ⟨dx, tr, tp, ts, qs, s _ _ h1, s _ _ h2, s _ _ h3, RowsT.same s h4, s _ _ h5, PairsT.same s h6, h7⟩
abbrev sTable : Stmt := top 31
abbrev sInit : Stmt := inClass sTable 1
/-- the given rows: each a list of words -/
def spInit (K : PySem.W.Frag) (C : Addr) : Sp := fun vs H Q _ => ∃ (p dx l : Addr) (ls : List V) (G : List (List Int)), vs = [.ref p, .ref l] ∧ H p = some (.ins C dx []) ∧ H dx = some (.own p) ∧ H l = some (.lst ls) ∧ RowsL H ls G ∧
  1 ≤ G.length ∧ G.length ≤ 6 ∧ (∀ g ∈ G, g.length < sizeLine ∧ g.all (isW G.length) = true) ∧
  ∀ H', (∀ b o, b ≠ p → H b = some o → H' b = some o) → Tab C H' p (G.map fun g => asc g G.length) → Q .non H'
section
variable {P : Program} {w : World} {K : PySem.W.Frag} {mg : Str → Option Value} {base : Heap}
structure Gs (K : PySem.W.Frag) (mg : Str → Option Value) (C : Addr) : Prop where
  B : Bt mg
  T : CT K mg C
  isW_ : ∃ f fd, Fun K "is_word" "is_word" sIsWord f fd ∧ mg "is_word" = some (.ref f) ∧ Binds K fd ["word", "size"] []
  allW : ∃ f fd, Fun K "all_words" "all_words" sAllWords f fd ∧ mg "all_words" = some (.ref f) ∧ Binds K fd ["words", "size"] []
  isS : ∃ f fd, Fun K "is_size" "is_size" sIsSize f fd ∧ mg "is_size" = some (.ref f) ∧ Binds K fd ["size"] []
  chS : ∃ f fd, Fun K "check_size" "check_size" sCheckSize f fd ∧ mg "check_size" = some (.ref f) ∧ Binds K fd ["size"] []
  chW : ∃ f fd, Fun K "check_word" "check_word" sCheckWord f fd ∧ mg "check_word" = some (.ref f) ∧ Binds K fd ["word", "size"] []
  asc : ∃ f fd, Fun K "ascending" "ascending" sAsc f fd ∧ mg "ascending" = some (.ref f) ∧ Binds K fd ["words", "size"] []
theorem scInit : FnScope ["self", "rows", "size", "index", "row", "told", "out"] ["self", "rows"] (defScope sInit) := ⟨rfl, rfl, rfl, by decide +kernel, rfl, by decide +kernel, by decide +kernel⟩
theorem ok_init {f C : Addr} {fd : FuncData} (F : Fun K "__init__" "Table.__init__" sInit f fd) (S : Gs K mg C) : FnOk P w K mg base CX0 3 f fd ["self", "rows"] (spInit K C) := by
  obtain ⟨fW, fdW, FW, mW, bW⟩ := S.isW_
  obtain ⟨fA, fdA, FA, mA, bA⟩ := S.allW
  obtain ⟨fI, fdI, FI, mI, bI⟩ := S.isS
  obtain ⟨fC, fdC, FC, mC, bC⟩ := S.chS
  obtain ⟨fS, fdS, FS, mS, bS⟩ := S.asc
  refine F.ok scInit (fun vs H Q E h => ?_) (fun cdv A outer s H vs Q E hr h => ?_)
  · obtain ⟨p, dx, l, ls, G, rfl, _⟩ := h
    rfl
  · obtain ⟨p, dx, l, ls, G, rfl, hp, hdx, hl, hR, g1, g6, gG, k⟩ := h
    have hr1 : Room 1 _ := hr.mono (by decide)
    refine ⟨_, pss_cons (ps_set (i := 2) scInit.nd rfl (Or.inr rfl) (pe_callB call_len_seq (by rfl) S.B.len PySem.boot_len (pa_cons (pv 1) pa_nil)))
      (pss_cons (ps_expr (pe_call (ok_checkSize FC S.T FI mI bI) hr rfl mC FC.kp bC .nil pass0 (pa_cons (pv 2) pa_nil)))
      (pss_cons (ps_for PassesOwn.never rfl (pi_enum (by rfl) S.B.enumerate (pa_cons (pv 1) pa_nil)) (pg_tup (by rfl) (pgs_cons (pg_name (i := 3) scInit.nd rfl (Or.inl rfl)) (pgs_cons (pg_name (i := 4) scInit.nd rfl (Or.inl rfl)) pgs_nil)))
        (pss_one (ps_if (pt_not (pt_val (pe_call (ok_allWords FA S.B FW mW bW) hr rfl mA FA.kp bA .nil pass0 (pa_cons (pv 4) (pa_cons (pv 2) pa_nil))))) (pss_one ps_never) pss_nil)))
      (pss_cons (ps_fld (pv 0) (pv 2) rfl)
      (pss_cons (ps_fld (pv 0) (pe_callTy call_tuple_of (by rfl) S.B.tuple (by decide +kernel) (pa_cons
        (pe_lc (own := [("row", 4)]) (g := gName 4) (tt := tYes) rfl scInit.nd (pi_list (pv 1)) (blkOk_by (own := [("row", 4)]) (N := ["self", "rows", "size", "index", "row", "told", "out"]) (sc := defScope sInit) (by decide +kernel))
          (fun _ _ _ _ _ => pg_name (i := 4) scInit.nd rfl (Or.inl rfl)) (fun _ _ _ _ _ => pts_nil)
          (te := tCB (fun xs H Q => ∃ p ys, xs = [.ref p] ∧ ((SqL K H p ys ∧ ∀ l, H l = none → Q (.ref l) (upd H l (.tup ys))) ∨ (SqT K H p ys ∧ Q (.ref p) H))) (tCons (tCall (spAsc K) [] E0 (tCons (tVar 4) (tCons (tVar 2) tNil))) tNil))
          (fun _ _ _ _ _ => pe_callTy call_tuple_of (by rfl) S.B.tuple (by decide +kernel) (pa_cons (pe_call (ok_asc FS S.B) hr1 rfl mS FS.kp bS .nil pass0 (pa_cons (pv 4) (pa_cons (pv 2) pa_nil))) pa_nil))) pa_nil)) rfl)
      (pss_one (ps_fld (pv 0) (pe_callTy call_tuple_of (by rfl) S.B.tuple (by decide +kernel) (pa_cons
        (pe_lc2 (own := [("told", 5), ("row", 4), ("out", 6)]) (vs1 := [6]) (tt := tYes) (tt1 := tYes) (g := gTup K 2 (gCons (gName 5) (gCons (gName 4) gNil))) (g1 := gName 6) (wi1 := iTup K (tVar 4)) rfl scInit.nd (pi_enumT (by rfl) S.B.enumerate (pa_cons (pe_fld (pv 0) rfl) pa_nil))
          (blkOk_by (own := [("told", 5), ("row", 4), ("out", 6)]) (N := ["self", "rows", "size", "index", "row", "told", "out"]) (sc := defScope sInit) (by decide +kernel)) (by decide)
          (fun _ _ _ _ _ => pg_tup (by rfl) (pgs_cons (pg_name (i := 5) scInit.nd rfl (Or.inl rfl)) (pgs_cons (pg_name (i := 4) scInit.nd rfl (Or.inl rfl)) pgs_nil))) (fun _ _ _ _ _ => pts_nil)
          (fun _ _ _ _ _ => pi_tup (pv 4)) (fun _ _ _ _ _ => pg_name (i := 6) scInit.nd rfl (Or.inl rfl)) (fun _ _ _ _ _ => pts_nil)
          (fun _ _ _ _ _ => pe_tup (pa_cons (pv 5) (pa_cons (pv 6) pa_nil)))) pa_nil)) rfl)))))), ?_⟩
    have el : ls.length = G.length := Paired.length hR
    rw [← el] at g1 g6 gG k
    refine ⟨_, rfl, l, ls, rfl, .inl (SqL.of hl), ?_⟩
    refine ⟨_, rfl, (ls.length : Int), rfl, by omega, by omega, ?_⟩
    refine ⟨_, rfl, l, ls, rfl, SqL.of hl, ?_⟩
    refine for_it (walk_enum (K := K) (a := l) (xs := ls)) (fun i σ H' => ∃ v3 v4, σ = [some (.ref p), some (.ref l), some (.int (ls.length : Int)), v3, v4, none, none] ∧ Same H H') ⟨none, none, rfl, Same.refl H⟩ (fun i σ H' _ ⟨_, _, _, s⟩ => SqL.of (s _ _ hl)) ?_ ?_
    · rintro i x σ H1 H2 hi ⟨v3, v4, rfl, s1⟩ ⟨T, a, b, rfl, hT, rfl, ha, hb⟩
      cases (Option.some.inj ha)
      obtain ⟨g, hg, t, rfl, ht⟩ := L2.Paired.at (RowsL.same s1 hR) hb
      have s2 : Same H (upd H1 T (.tup [.int (i : Nat), .ref t])) := Same.upd s1 hT
      refine ⟨T, _, rfl, SqT.of upd_same, rfl, _, _, rfl, _, _, rfl, rfl, ?_⟩
      have tT : t ≠ T := ne_of_none ht hT
      obtain ⟨gl, ga⟩ := gG g (List.mem_of_getElem? hg)
      refine ⟨_, rfl, _, rfl, t, g, ls.length, rfl, SqL.of (by rw [upd_ne tT]; exact ht), gl, fun H3 s3 => ⟨_, rfl, ?_⟩⟩
      rw [ga]
      exact iteF ⟨_, _, rfl, s2.trans s3⟩
    · rintro σ H1 ⟨v3, v4, rfl, s1⟩
      have hp1 := s1 _ _ hp
      have hdx1 := s1 _ _ hdx
      -- self.size = size
      refine ⟨_, rfl, _, rfl, p, C, dx, [], rfl, hp1, S.T.cl, S.T.nS, (by show 0 < 1000; decide), ?_⟩
      rw [tf_1]
      generalize hHa : upd H1 p (.ins C dx [(("size" : Str), V.int (ls.length : Int))]) = Ha
      have kA : ∀ b o, b ≠ p → H b = some o → Ha b = some o := fun b o ne e => by rw [← hHa, upd_ne ne]; exact s1 _ _ e
      have pA : Ha p = some (.ins C dx [(("size" : Str), V.int (ls.length : Int))]) := by rw [← hHa, upd_same]
      have npl : l ≠ p := ne_of hl hp (fun z => nomatch z)
      have npd : dx ≠ p := ne_of hdx hp (fun z => nomatch z)
      have lA := kA _ _ npl hl
      have RA : RowsL Ha ls G := L2.Paired.mapP hR fun _ _ ⟨t, e, q⟩ => ⟨t, e, kA _ _ (ne_of q hp (fun z => nomatch z)) q⟩
      -- self._rows = tuple([tuple(ascending(row, size)) for row in rows])
      refine ⟨_, rfl, l, rfl, ⟨_, SqL.of lA⟩, fun D hD => ?_⟩
      refine lc_list (K := K) (a := l) (xs := ls) (fun i H' => Same Ha H' ∧ ∃ ts, H' D = some (.lst ts) ∧ RowsT H' ts ((G.take i).map fun g => Toy.asc g ls.length)) ⟨Same.new hD, [], upd_same, .nil⟩ (fun i H' _ ⟨s, _⟩ => SqL.of (s _ _ lA)) ?_ ?_
      · rintro i y H2 hi ⟨s2, ts, hd2, R2⟩
        obtain ⟨g, hg, t, rfl, ht⟩ := L2.Paired.at (RowsL.same s2 RA) hi
        refine ⟨rfl, yesT (iteT ?_)⟩
        refine ⟨_, rfl, _, rfl, t, g, ls.length, rfl, .inl (SqL.of ht), g6, fun H3 q s3 hq0 hq => ?_⟩
        refine ⟨q, _, rfl, .inl ⟨SqL.of hq, fun u hu => ?_⟩⟩
        have hd3 := s3 _ _ hd2
        have nDu : D ≠ u := ne_of_none hd3 hu
        have hd4 : upd H3 u (.tup (vI (Toy.asc g ls.length))) D = some (.lst ts) := by rw [upd_ne nDu]; exact hd3
        refine ⟨ts, hd4, ?_, ?_, ts ++ [.ref u], upd_same, ?_⟩
        · rw [Paired.length R2, List.length_map]
          refine Nat.lt_of_le_of_lt (List.length_take_le' _ _) (Nat.lt_of_le_of_lt (?_ : _ ≤ 6) (by decide))
          omega
        · exact Same.updN (Same.upd (s2.trans s3) hu) hD
        · rw [take_more hg, List.map_append]
          refine L2.Paired.snoc ⟨u, rfl, by rw [upd_ne nDu.symm, upd_same]⟩ ?_
          exact RowsT.updL (RowsT.same ((s3).trans (Same.new hu)) R2) hd4
      · rintro H2 ⟨s2, ts, hd2, R2⟩
        rw [el, List.take_length] at R2
        refine ⟨D, ts, rfl, .inl ⟨SqL.of hd2, fun tr htr => ?_⟩⟩
        have sC : Same Ha (upd H2 tr (.tup ts)) := Same.upd s2 htr
        have R3 : RowsT (upd H2 tr (.tup ts)) ts (G.map fun g => Toy.asc g G.length) := RowsT.same (Same.new htr) R2
        have t3 : (upd H2 tr (.tup ts)) tr = some (.tup ts) := upd_same
        generalize (upd H2 tr (.tup ts)) = Hc at sC R3 t3
        refine ⟨_, rfl, p, C, dx, _, rfl, sC _ _ pA, S.T.cl, S.T.nR, (by show 1 < 1000; decide), ?_⟩
        rw [tf_2]
        rw [el] at k g6 g1
        rw [el] at *
        have kC : ∀ b o, b ≠ p → H b = some o → Hc b = some o := fun b o ne e => sC _ _ (kA b o ne e)
        have pC : ∀ b o, b ≠ p → Hc b = some o → upd Hc p (.ins C dx [(("size" : Str), V.int (G.length : Int)), (("_rows" : Str), V.ref tr)]) b = some o := fun b o ne e => by rw [upd_ne ne]; exact e
        have p0 := sC _ _ pA
        have R4 : RowsT (upd Hc p (.ins C dx [(("size" : Str), V.int (G.length : Int)), (("_rows" : Str), V.ref tr)])) ts (G.map fun g => Toy.asc g G.length) :=
          L2.Paired.mapP R3 fun _ _ ⟨t, e, q⟩ => ⟨t, e, pC _ _ (ne_of q p0 (fun z => nomatch z)) q⟩
        have t4 := pC _ _ (ne_of t3 p0 (fun z => nomatch z)) t3
        have kD : ∀ b o, b ≠ p → H b = some o → upd Hc p (.ins C dx [(("size" : Str), V.int (G.length : Int)), (("_rows" : Str), V.ref tr)]) b = some o := fun b o ne e => pC _ _ ne (kC _ _ ne e)
        have pD : upd Hc p (.ins C dx [(("size" : Str), V.int (G.length : Int)), (("_rows" : Str), V.ref tr)]) p = some (.ins C dx [(("size" : Str), V.int (G.length : Int)), (("_rows" : Str), V.ref tr)]) := upd_same
        generalize upd Hc p (.ins C dx [(("size" : Str), V.int (G.length : Int)), (("_rows" : Str), V.ref tr)]) = Hd at R4 t4 kD pD
        have lkR : List.lookup ("_rows" : Str) ([(("size" : Str), V.int (G.length : Int)), (("_rows" : Str), V.ref tr)] : List (Str × V)) = some (.ref tr) := by
          have h : (("_rows" : Str) == "size") = false := by simpa using rs_
          simp [List.lookup, h]
        -- self._pairs = ..
        have lR : (G.map fun g => Toy.asc g G.length).length = G.length := List.length_map ..
        have r6 : ∀ r ∈ (G.map fun g => Toy.asc g G.length), r.length ≤ 6 := fun r hr => by
          obtain ⟨g, _, rfl⟩ := List.mem_map.mp hr
          exact Nat.le_trans (asc_len _ _) g6
        generalize (G.map fun g => Toy.asc g G.length) = R at k R4 lR r6
        have lts : ts.length = R.length := Paired.length R4
        refine ⟨_, rfl, p, C, dx, _, _, rfl, pD, S.T.cl, S.T.nR, lkR, tr, ts, rfl, SqT.of t4, fun D2 hD2 => ?_⟩
        have nP6 : ∀ i, (prs 0 (R.take i)).length ≤ 36 := fun i => by
          have h1 := prs_len 0 (R.take i) fun r hr => r6 r (List.mem_of_mem_take hr)
          have h2 : (R.take i).length ≤ R.length := List.length_take_le' _ _
          omega
        refine lc2_out (walk_enumT (K := K) (a := tr) (xs := ts)) (fun i H' => Same Hd H' ∧ ∃ qs, H' D2 = some (.lst qs) ∧ PairsT H' qs (prs 0 (R.take i))) ⟨Same.new hD2, [], upd_same, .nil⟩ (fun i H' _ ⟨s, _⟩ => SqT.of (s _ _ t4)) ?_ ?_
        · rintro i x H4 H5 hi ⟨s5, qs, hq, hP⟩ ⟨T, a, b, rfl, hT, rfl, ha, hb⟩
          cases (Option.some.inj ha)
          obtain ⟨r, hr0, t, rfl, ht⟩ := L2.Paired.at (RowsT.same s5 R4) hb
          have r6' := r6 r (List.mem_of_getElem? hr0)
          have nDT : D2 ≠ T := ne_of_none hq hT
          have s6 := Same.new (H := H4) (o := .tup [.int (i : Nat), .ref t]) hT
          refine ⟨T, _, rfl, SqT.of upd_same, rfl, _, _, rfl, _, _, rfl, rfl, ?_⟩
          refine ⟨rfl, yesT (iteT ?_)⟩
          refine ⟨_, rfl, t, rfl, ⟨_, SqT.of (s6 _ _ ht)⟩, ?_⟩
          refine lc2_in (walk_tup (K := K) (a := t) (xs := vI r)) (fun j H' => Same Hd H' ∧ H' t = some (.tup (vI r)) ∧ ∃ qs, H' D2 = some (.lst qs) ∧ PairsT H' qs (prs 0 (R.take i) ++ (r.take j).map fun x => ((i : Int), x))) ?_ (fun j H' _ ⟨_, h, _⟩ => SqT.of h) ?_ ?_
          · refine ⟨s5.trans s6, s6 _ _ ht, qs, s6 _ _ hq, ?_⟩
            rw [List.take_zero, List.map_nil, List.append_nil]
            exact PairsT.same s6 hP
          · rintro j x H6 H7 hj ⟨s7, ht7, qs7, hq7, hP7⟩ ⟨rfl, hx⟩
            obtain ⟨y, hy, rfl⟩ := vI_at hx
            refine ⟨rfl, yesT (iteT ?_)⟩
            refine ⟨_, rfl, _, rfl, (by show 2 ≤ sizeLine; decide), fun u hu => ?_⟩
            have nDu : D2 ≠ u := ne_of_none hq7 hu
            have s8 := Same.new (H := H7) (o := .tup [.int (i : Int), .int y]) hu
            have hq8 := s8 _ _ hq7
            have ntD : t ≠ D2 := ne_of ht7 hq7 (fun z => nomatch z)
            refine ⟨qs7, hq8, ?_, Same.updN (s7.trans s8) hD2, by rw [upd_ne ntD]; exact s8 _ _ ht7, qs7 ++ [.ref u], upd_same, ?_⟩
            · rw [Paired.length hP7, List.length_append, List.length_map]
              have h1 := nP6 i
              have h2 : (r.take j).length ≤ r.length := List.length_take_le' _ _
              exact Nat.lt_of_le_of_lt (by omega : _ ≤ 42) (by decide)
            · rw [take_more hy, List.map_append, ← List.append_assoc]
              refine L2.Paired.snoc ⟨u, rfl, by rw [upd_ne nDu.symm]; exact upd_same⟩ ?_
              exact PairsT.updL (PairsT.same s8 hP7) hq8
          · rintro H6 ⟨s7, ht7, qs7, hq7, hP7⟩
            rw [vI_len, List.take_length] at hP7
            refine ⟨s7, qs7, hq7, ?_⟩
            rw [take_more hr0, prs_snoc]
            have e : (R.take i).length = i := by rw [List.length_take]; have := (List.getElem?_eq_some_iff.mp hr0).1; omega
            rw [e, Nat.zero_add]
            exact hP7
        · rintro H6 ⟨s7, qs, hq, hP⟩
          rw [lts, List.take_length] at hP
          refine ⟨D2, qs, rfl, .inl ⟨SqL.of hq, fun tp htp => ?_⟩⟩
          have sE : Same Hd (upd H6 tp (.tup qs)) := Same.upd s7 htp
          have P3 := PairsT.same (Same.new (H := H6) (o := .tup qs) htp) hP
          have t5 : (upd H6 tp (.tup qs)) tp = some (.tup qs) := upd_same
          generalize (upd H6 tp (.tup qs)) = He at sE P3 t5
          refine ⟨_, rfl, p, C, dx, _, rfl, sE _ _ pD, S.T.cl, S.T.nP, (by show 2 < 1000; decide), ?_⟩
          rw [tf_3]
          have p9 := sE _ _ pD
          refine k _ (fun b o ne e => by rw [upd_ne ne]; exact sE _ _ (kD _ _ ne e)) ⟨dx, tr, tp, ts, qs, by rw [upd_same, lR], ?_, ?_, ?_, ?_, ?_, by omega, by omega, r6⟩
          · rw [upd_ne npd]; exact sE _ _ (kD _ _ npd hdx)
          · rw [upd_ne (ne_of (sE _ _ t4) p9 (fun z => nomatch z))]; exact sE _ _ t4
          · exact L2.Paired.mapP (RowsT.same sE R4) fun _ _ ⟨t, e, q⟩ => ⟨t, e, by rw [upd_ne (ne_of q p9 (fun z => nomatch z))]; exact q⟩
          · rw [upd_ne (ne_of t5 p9 (fun z => nomatch z))]; exact t5
          · exact L2.Paired.mapP P3 fun _ _ ⟨t, e, q⟩ => ⟨t, e, by rw [upd_ne (ne_of q p9 (fun z => nomatch z))]; exact q⟩
end
end Toy
namespace Toy
open PySem L2
abbrev sRows : Stmt := inClass sTable 6
/-- new lists -/
abbrev RowsN (H0 H : Hp) (ls : List V) (R : List (List Int)) : Prop := Paired (fun v r => ∃ t, v = V.ref t ∧ H t = some (.lst (vI r)) ∧ H0 t = none) ls R
def spRows (C : Addr) : Sp := fun vs H Q _ => ∃ (p : Addr) (R : List (List Int)), vs = [.ref p] ∧ Tab C H p R ∧ ∀ H' l ls, Same H H' → H l = none → H' l = some (.lst ls) → RowsN H H' ls R → Q (.ref l) H'
section
variable {P : Program} {w : World} {K : PySem.W.Frag} {mg : Str → Option Value} {base : Heap}
theorem scRows : FnScope ["self", "row"] ["self"] (defScope sRows) := ⟨rfl, rfl, rfl, by decide +kernel, rfl, by decide +kernel, by decide +kernel⟩
theorem ok_rows {f C : Addr} {fd : FuncData} (F : Fun K "rows" "Table.rows" sRows f fd) (S : Gs K mg C) : FnOk P w K mg base CX0 1 f fd ["self"] (spRows C) := by
  refine F.ok scRows (fun vs H Q E h => ?_) (fun cdv A outer s H vs Q E hr h => ?_)
  · obtain ⟨p, R, rfl, _⟩ := h
    rfl
  · obtain ⟨p, R, rfl, hT, k⟩ := h
    obtain ⟨dx, tr, tp, ts, qs, h1, h2, h3, h4, h5, h6, h7, h8, h9⟩ := id hT
    refine ⟨_, pss_one (ps_ret (pe_lc (own := [("row", 1)]) (g := gName 1) (tt := tYes) rfl scRows.nd (pi_tup (pe_fld (pv 0) rfl)) (blkOk_by (own := [("row", 1)]) (N := ["self", "row"]) (sc := defScope sRows) (by decide +kernel))
          (fun _ _ _ _ _ => pg_name (i := 1) scRows.nd rfl (Or.inl rfl)) (fun _ _ _ _ _ => pts_nil)
          (te := tCB (fun xs H Q => ∃ p ys, xs = [.ref p] ∧ (SqL K H p ys ∨ SqT K H p ys) ∧ ∀ l, H l = none → Q (.ref l) (upd H l (.lst ys))) (tCons (tVar 1) tNil))
          (fun _ _ _ _ _ => pe_callTy call_list_of (by rfl) S.B.list (by decide +kernel) (pa_cons (pv 1) pa_nil)))), ?_⟩
    refine ⟨_, rfl, p, C, dx, _, _, rfl, h1, S.T.cl, S.T.nR, tf_rows _ _ _, ?_⟩
    refine ⟨tr, rfl, ⟨_, SqT.of h3⟩, fun D hD => ?_⟩
    refine lc_tup (K := K) (a := tr) (xs := ts) (fun i H' => Same H H' ∧ ∃ ls, H' D = some (.lst ls) ∧ RowsN H H' ls (R.take i) ∧ ∀ v ∈ ls, v ≠ .ref D) ⟨Same.new hD, [], upd_same, .nil, fun _ h => nomatch h⟩ (fun i H' _ ⟨s, _⟩ => SqT.of (s _ _ h3)) ?_ ?_
    · rintro i y H2 hi ⟨s2, ls, hd2, R2, nD⟩
      obtain ⟨r, hr0, t, rfl, ht⟩ := L2.Paired.at (RowsT.same s2 h4) hi
      refine ⟨rfl, yesT (iteT ?_)⟩
      refine ⟨_, rfl, t, _, rfl, .inr (SqT.of ht), fun u hu => ?_⟩
      have nDu : D ≠ u := ne_of_none hd2 hu
      have s3 := Same.new (H := H2) (o := .lst (vI r)) hu
      refine ⟨ls, s3 _ _ hd2, ?_, Same.updN (s2.trans s3) hD, ls ++ [.ref u], upd_same, ?_, ?_⟩
      · rw [Paired.length R2]
        exact Nat.lt_of_le_of_lt (List.length_take_le' _ _) (Nat.lt_of_le_of_lt h8 (by decide))
      · rw [take_more hr0]
        refine L2.Paired.snoc ⟨u, rfl, by rw [upd_ne nDu.symm]; exact upd_same, s2.free hu⟩ ?_
        refine PairedIn.map R2 fun v r' hv ⟨t', e, q, z⟩ => ⟨t', e, ?_, z⟩
        have nt : t' ≠ D := fun z => nD v hv (by rw [e, z])
        rw [upd_ne nt]
        exact s3 _ _ q
      · intro v hv
        rcases List.mem_append.mp hv with hv | hv
        · exact nD v hv
        · rw [List.mem_singleton.mp hv]
          exact fun z => nDu (V.ref.inj z).symm
    · rintro H2 ⟨s2, ls, hd2, R2, _⟩
      rw [Paired.length h4, List.take_length] at R2
      exact k H2 D ls s2 hD hd2 R2
end
end Toy
namespace Toy
open PySem L2
/-! ### the box -/
def off (b : Addr) (H : Hp) : Hp := fun a => if a = b then none else H a
theorem off_ne {b a : Addr} {H : Hp} (h : a ≠ b) : off b H a = H a := by unfold off; rw [if_neg h]
theorem off_at {b : Addr} {H : Hp} : off b H b = none := by unfold off; rw [if_pos rfl]
theorem off_le {b : Addr} {H : Hp} : Same (off b H) H := fun a o e => by
  by_cases h : a = b
  · rw [h, off_at] at e
    cases e
  · rw [off_ne h] at e
    exact e
theorem off_ne_of {b a : Addr} {H : Hp} {o : HO} (e : off b H a = some o) : a ≠ b := fun z => by
  rw [z, off_at] at e
  cases e
theorem off_upd {b : Addr} {H : Hp} {o : HO} : off b (upd H b o) = off b H := by
  funext a
  by_cases h : a = b
  · rw [h, off_at, off_at]
  · rw [off_ne h, off_ne h, upd_ne h]
theorem off_updN {b p : Addr} {H : Hp} {o : HO} (h : p ≠ b) : off b (upd H p o) = upd (off b H) p o := by
  funext a
  by_cases h1 : a = b
  · rw [h1, off_at, upd_ne (Ne.symm h), off_at]
  · rw [off_ne h1]
    by_cases h2 : a = p
    · rw [h2, upd_same, upd_same]
    · rw [upd_ne h2, upd_ne h2, off_ne h1]
theorem Same.off {b : Addr} {H H' : Hp} (s : Same H H') : Same (Toy.off b H) (Toy.off b H') := fun a o e => by
  have n := off_ne_of e
  rw [off_ne n] at e ⊢
  exact s _ _ e
def BoxAt (H : Hp) (b c : Addr) : Prop := ∃ (cs : List Int) (i pend st : Int), H b = some (.lst [.ref c, .int i, .int pend, .int st]) ∧ H c = some (.lst (vI cs)) ∧ c ≠ b ∧ 0 ≤ i ∧ 0 ≤ pend ∧ 0 ≤ st ∧ st < 2147483647 ∧ ∀ x ∈ cs, 0 ≤ x
theorem BoxAt.same {H H' : Hp} {b c : Addr} (s : Same H H') (h : BoxAt H b c) : BoxAt H' b c := by
  obtain ⟨cs, i, p, st, h1, h2, h3⟩ := h
  exact ⟨cs, i, p, st, s _ _ h1, s _ _ h2, h3⟩
theorem BoxAt.upd {H : Hp} {b c l : Addr} {o : HO} (h : BoxAt H b c) (n : l ≠ b) (n' : l ≠ c) : BoxAt (L2.upd H l o) b c := by
  obtain ⟨cs, i, p, st, h1, h2, h3⟩ := h
  exact ⟨cs, i, p, st, by rw [upd_ne (Ne.symm n)]; exact h1, by rw [upd_ne (Ne.symm n')]; exact h2, h3⟩
theorem BoxAt.nec {H : Hp} {b c p : Addr} (h : BoxAt H b c) (n : H p = none) : p ≠ c := by
  obtain ⟨cs, i, p, st, h1, h2, h3⟩ := h
  exact (ne_of_none h2 n).symm
theorem BoxAt.ne {H : Hp} {b c p : Addr} (h : BoxAt H b c) (n : H p = none) : p ≠ b := by
  obtain ⟨cs, i, p, st, h1, h2, h3⟩ := h
  exact (ne_of_none h1 n).symm
abbrev sBox : Stmt := top 34
abbrev sTake : Stmt := top 35
abbrev sWords : Stmt := top 36
abbrev sRowsL : Stmt := top 37
abbrev sMixed : Stmt := top 42
def spBox (K : PySem.W.Frag) : Sp := fun vs H Q _ => ∃ (a : Addr) (ns : List Int), vs = [.ref a] ∧ SqL K H a (vI ns) ∧ ns.length ≤ 63 ∧ ∀ H' b c, Same H H' → H b = none → BoxAt H' b c → Q (.ref b) H'
def spTake : Sp := fun vs H Q _ => ∃ (b c : Addr) (m : Int), vs = [.ref b, .int m] ∧ BoxAt H b c ∧ 0 < m ∧ m < 1073741824 ∧ ∀ (r : Nat) H', (r : Int) < m → BoxAt H' b c → Same (off b H) (off b H') → Q (.int r) H'
section
variable {P : Program} {w : World} {K : PySem.W.Frag} {mg : Str → Option Value} {base : Heap}
theorem scBox : FnScope ["_law_script", "_law_cell"] ["_law_script"] (defScope sBox) := ⟨rfl, rfl, rfl, by decide +kernel, rfl, by decide +kernel, by decide +kernel⟩
theorem cut_vI (ns : List Int) (lo hi : Option Int) : ∃ ms, cutV (vI ns) lo hi = vI ms ∧ ms.length ≤ ns.length := by
  refine ⟨(ns.drop (HT.sIx (vI ns).length 0 lo)).take (HT.sIx (vI ns).length (vI ns).length hi - HT.sIx (vI ns).length 0 lo), ?_, ?_⟩
  · unfold cutV vI
    rw [List.map_take, List.map_drop]
  · rw [List.length_take, List.length_drop]
    omega
theorem ok_box {f : Addr} {fd : FuncData} (F : Fun K "_law_box" "_law_box" sBox f fd) (B : Bt mg) : FnOk P w K mg base CX0 1 f fd ["_law_script"] (spBox K) := by
  refine F.ok scBox (fun vs H Q E h => ?_) (fun cdv A outer s H vs Q E hr h => ?_)
  · obtain ⟨a, ns, rfl, _⟩ := h
    rfl
  · obtain ⟨a, ns, rfl, hS, hlen, k⟩ := h
    refine ⟨_, pss_one (ps_ret (pe_lst (pa_cons (pe_lc (own := [("_law_cell", 1)]) (g := gName 1) (tt := tYes) rfl scBox.nd (pi_list (pe_slice sl_list (pv 0) po_none (po_some pe_int))) (blkOk_by (own := [("_law_cell", 1)]) (N := ["_law_script", "_law_cell"]) (sc := defScope sBox) (by decide +kernel))
          (fun _ _ _ _ _ => pg_name (i := 1) scBox.nd rfl (Or.inl rfl)) (fun _ _ _ _ _ => pts_nil)
          (fun _ _ _ _ _ => pe_callB call_abs (by rfl) B.abs (by decide +kernel) (pa_cons (pe_callTy call_int1 (by rfl) B.int (by decide +kernel) (pa_cons (pv 1) pa_nil)) pa_nil)))
        (pa_cons pe_int (pa_cons pe_int (pa_cons pe_int pa_nil)))))), ?_⟩
    refine ⟨_, rfl, 63, rfl, a, _, rfl, hS, fun p hp => ?_⟩
    obtain ⟨ms, em, lm⟩ := cut_vI ns none (some 63)
    rw [em]
    refine ⟨p, rfl, ⟨_, SqL.of upd_same⟩, fun D hD => ?_⟩
    have s1 := Same.new (H := H) (o := .lst (vI ms)) hp
    have hp1 : upd H p (.lst (vI ms)) p = some (.lst (vI ms)) := upd_same
    have hD0 := s1.free hD
    generalize upd H p (.lst (vI ms)) = H1 at hD s1 hp1
    refine lc_list (K := K) (a := p) (xs := vI ms) (fun i H' => Same H1 H' ∧ ∃ cs, H' D = some (.lst (vI cs)) ∧ cs.length = i ∧ ∀ x ∈ cs, 0 ≤ x) ⟨Same.new hD, [], upd_same, rfl, fun _ h => nomatch h⟩ (fun i H' _ ⟨s, _⟩ => SqL.of (s _ _ hp1)) ?_ ?_
    · rintro i y H2 hi ⟨s2, cs, hd, el, hc⟩
      obtain ⟨x, hx, rfl⟩ := vI_at hi
      have hi' := (List.getElem?_eq_some_iff.mp hx).1
      refine ⟨rfl, yesT (iteT ?_)⟩
      refine ⟨_, rfl, .inl ⟨_, rfl, _, rfl, ?_⟩⟩
      refine ⟨_, hd, ?_, Same.updN s2 hD, cs ++ [if x < 0 then -x else x], ?_, by simp [el], ?_⟩
      · rw [vI_len, el]
        exact Nat.lt_of_le_of_lt (by omega : i ≤ 63) (by decide)
      · rw [upd_same]
        unfold vI
        rw [List.map_append]
        rfl
      · intro z hz
        rcases List.mem_append.mp hz with h | h
        · exact hc z h
        · rw [List.mem_singleton.mp h]
          split <;> omega
    · rintro H2 ⟨s2, cs, hd, el, hc⟩
      refine ⟨by show 4 ≤ sizeLine; decide, fun b hb => ?_⟩
      have nDb : D ≠ b := ne_of_none hd hb
      refine k _ b D (s1.trans (Same.upd s2 hb)) ((s1.trans s2).free hb) ⟨cs, 0, 0, 0, upd_same, by rw [upd_ne nDb]; exact hd, nDb, by decide, by decide, by decide, by decide, hc⟩
theorem scTake : FnScope ["_law_box_here", "_law_many", "_law_digit", "_law_cell"] ["_law_box_here", "_law_many"] (defScope sTake) := ⟨rfl, rfl, rfl, by decide +kernel, rfl, by decide +kernel, by decide +kernel⟩
theorem ok_take {f : Addr} {fd : FuncData} (F : Fun K "_law_take" "_law_take" sTake f fd) (B : Bt mg) : FnOk P w K mg base CX0 1 f fd ["_law_box_here", "_law_many"] spTake := by
  refine F.ok scTake (fun vs H Q E h => ?_) (fun cdv A outer s H vs Q E hr h => ?_)
  · obtain ⟨b, c, m, rfl, _⟩ := h
    rfl
  · obtain ⟨b, c, m, rfl, ⟨cs, i, pd, st, hb, hc, ncb, i0, p0, s0, s1, c0⟩, m0, m1, k⟩ := h
    refine ⟨_, pss_cons (ps_if (pt_cmpR op_gt (pe_ix ix_list (pv 0) pe_int (fun _ _ => rfl)) pe_int (nomark _))
        (pss_cons (ps_set (i := 2) scTake.nd rfl (Or.inl rfl) (pe_op op_mod (pe_callTy call_int1 (by rfl) B.int (by decide +kernel) (pa_cons (pe_ix ix_list (pv 0) pe_int (fun _ _ => rfl)) pa_nil)) (pv 1)))
          (pss_cons (ps_asg (pe_op op_fdiv (pe_ix ix_list (pv 0) pe_int (fun _ _ => rfl)) (pv 1)) (pg_sub (pv 0) pe_int set_list)) (pss_one (ps_ret (pv 2))))) pss_nil)
      (pss_cons (ps_set (i := 3) scTake.nd rfl (Or.inl rfl) pe_int)
      (C8.pss_cut (ps_if (pt_cmpR op_lt (pe_ix ix_list (pv 0) pe_int (fun _ _ => rfl)) (pe_callB call_len_seq (by rfl) B.len PySem.boot_len (pa_cons (pe_ix ix_list (pv 0) pe_int (fun _ _ => rfl)) pa_nil)) (nomark _))
        (pss_cons (ps_set (i := 3) scTake.nd rfl (Or.inl rfl) (pe_ix ix_list (pe_ix ix_list (pv 0) pe_int (fun _ _ => rfl)) (pe_ix ix_list (pv 0) pe_int (fun _ _ => rfl)) (fun _ _ => rfl)))
          (pss_one (ps_asg (pe_op op_add (pe_ix ix_list (pv 0) pe_int (fun _ _ => rfl)) pe_int) (pg_sub (pv 0) pe_int set_list)))) pss_nil)
      (pss_cons (ps_if (pt_cmpR op_ge (pv 3) (pe_op op_pow pe_int pe_int) (nomark _))
        (pss_cons (ps_asg (pe_op op_fdiv (pv 3) (pv 1)) (pg_sub (pv 0) pe_int set_list)) (pss_one (ps_ret (pe_op op_mod (pe_callTy call_int1 (by rfl) B.int (by decide +kernel) (pa_cons (pv 3) pa_nil)) (pv 1))))) pss_nil)
      (pss_cons (ps_asg (pe_op op_mod (pe_callTy call_int1 (by rfl) B.int (by decide +kernel) (pa_cons (pe_op op_add (pe_op op_mul (pe_ix ix_list (pv 0) pe_int (fun _ _ => rfl)) pe_int) (pv 3)) pa_nil)) pe_int) (pg_sub (pv 0) pe_int set_list))
      (pss_one (ps_ret (pe_op op_mod (pe_callTy call_int1 (by rfl) B.int (by decide +kernel) (pa_cons (pe_op op_fdiv (pe_op op_mod (pe_callTy call_int1 (by rfl) B.int (by decide +kernel) (pa_cons (pe_op op_mul (pe_ix ix_list (pv 0) pe_int (fun _ _ => rfl)) pe_int) pa_nil)) pe_int) pe_int) pa_nil)) (pv 1)))))))), ?_⟩
    have box : ∀ (i' pd' st' : Int), 0 ≤ i' → 0 ≤ pd' → 0 ≤ st' → st' < 2147483647 → BoxAt (upd H b (.lst [.ref c, .int i', .int pd', .int st'])) b c := fun i' pd' st' a1 a2 a3 a4 =>
      ⟨cs, i', pd', st', upd_same, by rw [upd_ne ncb]; exact hc, ncb, a1, a2, a3, a4, c0⟩
    have at0 : ∀ (x y z u : V), atI [x, y, z, u] 0 = some x := fun _ _ _ _ => rfl
    have at1 : ∀ (x y z u : V), atI [x, y, z, u] 1 = some y := fun _ _ _ _ => rfl
    have at2 : ∀ (x y z u : V), atI [x, y, z, u] 2 = some z := fun _ _ _ _ => rfl
    have at3 : ∀ (x y z u : V), atI [x, y, z, u] 3 = some u := fun _ _ _ _ => rfl
    refine ⟨_, rfl, b, _, 2, _, rfl, rfl, SqL.of hb, at2 _ _ _ _, _, _, rfl, rfl, _, rfl, ?_⟩
    refine ite2 (fun q => ?_) (fun q => ?_)
    · -- a digit of what is held back
      refine ⟨_, rfl, b, _, 2, _, rfl, rfl, SqL.of hb, at2 _ _ _ _, .inl ⟨_, rfl, _, rfl, _, _, rfl, rfl, m0, ?_⟩⟩
      refine ⟨_, rfl, b, _, 2, _, rfl, rfl, SqL.of hb, at2 _ _ _ _, _, rfl, _, _, rfl, rfl, ⟨m0, m1⟩, ?_⟩
      refine ⟨_, rfl, b, _, 2, 2, rfl, rfl, hb, rfl, ?_⟩
      refine ⟨_, rfl, ?_⟩
      have h1 := Int.emod_nonneg pd (by omega : m ≠ 0)
      have h2 := Int.emod_lt_of_pos pd m0
      obtain ⟨r, hr'⟩ := Int.eq_ofNat_of_zero_le h1
      have z := k r _ (by omega) (box i (pd / m) st i0 (Int.ediv_nonneg p0 (by omega)) s0 s1) (by rw [off_upd]; exact Same.refl _)
      rw [← hr'] at z
      exact z
    · refine ⟨fun σ' H' => ∃ (i' cell : Int), σ' = [some (.ref b), some (.int m), none, some (.int cell)] ∧ 0 ≤ i' ∧ 0 ≤ cell ∧ H' b = some (.lst [.ref c, .int i', .int pd, .int st]) ∧ Same (off b H) (off b H'), ?_, ?_⟩
      · refine ⟨_, rfl, b, _, 1, _, rfl, rfl, SqL.of hb, at1 _ _ _ _, ?_⟩
        refine ⟨_, rfl, b, _, 0, _, rfl, rfl, SqL.of hb, at0 _ _ _ _, c, _, rfl, .inl (SqL.of hc), _, _, rfl, rfl, _, rfl, ?_⟩
        refine ite2 (fun q => ?_) (fun q => ⟨i, 0, rfl, i0, by decide, hb, Same.refl _⟩)
        rw [decide_eq_true_iff, vI_len] at q
        obtain ⟨i1, rfl⟩ := Int.eq_ofNat_of_zero_le i0
        obtain ⟨x, hx⟩ : ∃ x, cs[i1]? = some x := ⟨_, List.getElem?_eq_getElem (by omega)⟩
        have hxv : (vI cs)[i1]? = some (.int x) := by unfold vI; rw [List.getElem?_map, hx]; rfl
        refine ⟨_, rfl, b, _, 0, _, rfl, rfl, SqL.of hb, at0 _ _ _ _, ?_⟩
        refine ⟨_, rfl, b, _, 1, _, rfl, rfl, SqL.of hb, at1 _ _ _ _, c, _, _, _, rfl, rfl, SqL.of hc, atI_nat hxv, ?_⟩
        refine ⟨_, rfl, b, _, 1, _, rfl, rfl, SqL.of hb, at1 _ _ _ _, _, _, rfl, rfl, ?_⟩
        refine ⟨_, rfl, b, _, 1, 1, rfl, rfl, hb, rfl, ?_⟩
        exact ⟨(i1 : Int) + 1, x, rfl, by omega, c0 x (List.mem_of_getElem? hx), upd_same, by rw [off_upd]; exact Same.refl _⟩
      · rintro σ' H' ⟨i', cell, rfl, j0, c1, hb', so⟩
        have hc' : H' c = some (.lst (vI cs)) := off_le _ _ (so _ _ (by rw [off_ne ncb]; exact hc))
        have box : ∀ (i' pd' st' : Int), 0 ≤ i' → 0 ≤ pd' → 0 ≤ st' → st' < 2147483647 → BoxAt (upd H' b (.lst [.ref c, .int i', .int pd', .int st'])) b c := fun i' pd' st' a1 a2 a3 a4 =>
          ⟨cs, i', pd', st', upd_same, by rw [upd_ne ncb]; exact hc', ncb, a1, a2, a3, a4, c0⟩
        refine ⟨_, rfl, _, _, rfl, rfl, ⟨by decide, by decide, by decide⟩, _, _, rfl, rfl, _, rfl, ?_⟩
        refine ite2 (fun q => ?_) (fun q => ?_)
        · refine ⟨_, rfl, _, rfl, _, _, rfl, rfl, ⟨m0, m1⟩, ?_⟩
          refine ⟨_, rfl, b, _, 2, 2, rfl, rfl, hb', rfl, ?_⟩
          refine ⟨_, rfl, .inl ⟨_, rfl, _, rfl, _, _, rfl, rfl, m0, ?_⟩⟩
          have h1 := Int.emod_nonneg cell (by omega : m ≠ 0)
          have h2 := Int.emod_lt_of_pos cell m0
          obtain ⟨r, hr'⟩ := Int.eq_ofNat_of_zero_le h1
          have z := k r _ (by omega) (box i' (cell / m) st j0 (Int.ediv_nonneg c1 (by omega)) s0 s1) (by rw [off_upd]; exact so)
          rw [← hr'] at z
          exact z
        · refine ⟨_, rfl, b, _, 3, _, rfl, rfl, SqL.of hb', at3 _ _ _ _, _, _, rfl, rfl, .inl ⟨by omega, by omega⟩, ?_⟩
          refine ⟨_, rfl, _, _, rfl, rfl, .inl ⟨_, rfl, _, _, rfl, rfl, (by show (0 : Int) < 2147483647; decide), ?_⟩⟩
          refine ⟨_, rfl, b, _, 3, 3, rfl, rfl, hb', rfl, ?_⟩
          have h1 := Int.emod_nonneg (st * 48271 + cell) (by decide : (2147483647 : Int) ≠ 0)
          have h2 := Int.emod_lt_of_pos (st * 48271 + cell) (by decide : (0 : Int) < 2147483647)
          have bx := box i' pd ((st * 48271 + cell) % 2147483647) j0 p0 h1 h2
          have eb : (upd H' b (.lst [.ref c, .int i', .int pd, .int ((st * 48271 + cell) % 2147483647)])) b = some (.lst [.ref c, .int i', .int pd, .int ((st * 48271 + cell) % 2147483647)]) := upd_same
          have so2 : Same (off b H) (off b (upd H' b (.lst [.ref c, .int i', .int pd, .int ((st * 48271 + cell) % 2147483647)]))) := by rw [off_upd]; exact so
          refine ⟨_, rfl, b, _, 3, _, rfl, rfl, SqL.of eb, at3 _ _ _ _, _, _, rfl, rfl, .inl ⟨by omega, by omega⟩, .inl ⟨_, rfl, _, _, rfl, rfl, (by show (0 : Int) < 2147483629; decide), _, _, rfl, rfl, ⟨by decide, by decide⟩, .inl ⟨_, rfl, _, rfl, _, _, rfl, rfl, m0, ?_⟩⟩⟩
          have h3 := Int.emod_nonneg ((st * 48271 + cell) % 2147483647 * 69621 % 2147483629 / 16) (by omega : m ≠ 0)
          have h4 := Int.emod_lt_of_pos ((st * 48271 + cell) % 2147483647 * 69621 % 2147483629 / 16) m0
          obtain ⟨r, hr'⟩ := Int.eq_ofNat_of_zero_le h3
          have z := k r _ (by omega) bx so2
          rw [← hr'] at z
          exact z
end
end Toy
namespace Toy
open PySem L2
/-! ### canonical lists of words -/
def Can (n : Nat) (ws : List Int) : Prop := asc ws n = ws
theorem asc_congr {a b : List Int} : ∀ {n : Nat}, (∀ j : Nat, j < n → (((j : Int) ∈ a) ↔ ((j : Int) ∈ b))) → asc a n = asc b n
  | 0, _ => rfl
  | n + 1, h => by
    rw [asc_succ, asc_succ, asc_congr (n := n) fun j hj => h j (by omega)]
    have q := h n (by omega)
    by_cases c : (n : Int) ∈ a
    · rw [if_pos c, if_pos (q.mp c)]
    · rw [if_neg c, if_neg fun z => c (q.mpr z)]
theorem asc_mem {ns : List Int} {n : Nat} {x : Int} (h : x ∈ asc ns n) : x ∈ ns ∧ 0 ≤ x ∧ x < (n : Int) := by
  unfold asc at h
  obtain ⟨i, hi, rfl⟩ := List.mem_map.mp h
  obtain ⟨h1, h2⟩ := List.mem_filter.mp hi
  have := List.mem_range.mp h1
  exact ⟨of_decide_eq_true h2, by omega, by omega⟩
theorem Can.mem {n : Nat} {ws : List Int} (c : Can n ws) {x : Int} (h : x ∈ ws) : 0 ≤ x ∧ x < (n : Int) := by
  have c' : asc ws n = ws := c
  rw [← c'] at h
  exact (asc_mem h).2
theorem Can.len {n : Nat} {ws : List Int} (c : Can n ws) : ws.length ≤ n := by
  have c' : asc ws n = ws := c
  rw [← c']
  exact asc_len _ _
theorem Can.skip {n : Nat} {ws : List Int} (c : Can n ws) : Can (n + 1) ws := by
  show asc ws (n + 1) = ws
  rw [asc_succ, if_neg fun h => by have := c.mem h; omega]
  exact c
theorem Can.add {n : Nat} {ws : List Int} (c : Can n ws) : Can (n + 1) (ws ++ [(n : Int)]) := by
  show asc (ws ++ [(n : Int)]) (n + 1) = _
  rw [asc_succ, if_pos (by simp)]
  have e : asc (ws ++ [(n : Int)]) n = asc ws n := asc_congr fun j hj => by
    have : ¬ ((j : Int) = (n : Int)) := by omega
    simp [this]
  rw [e, c]
theorem Can.one {n : Nat} {x : Nat} (h : x < n) : Can n [(x : Int)] := by
  induction n with
  | zero => omega
  | succ n ih =>
    by_cases e : x = n
    · subst e
      exact Can.add (n := x) (ws := []) (by
        show asc [] x = []
        unfold asc
        simp)
    · exact (ih (by omega)).skip
theorem Can.nil {n : Nat} : Can n [] := by
  show asc [] n = []
  unfold asc
  simp
theorem six : ∀ i : Nat, i < 6 → ∃ d : Int, ([V.int 1, V.int 2, V.int 4, V.int 8, V.int 16, V.int 32] : List V)[i]? = some (.int d) ∧ 0 < d ∧ d < 1073741824
  | 0, _ => ⟨1, rfl, by decide, by decide⟩
  | 1, _ => ⟨2, rfl, by decide, by decide⟩
  | 2, _ => ⟨4, rfl, by decide, by decide⟩
  | 3, _ => ⟨8, rfl, by decide, by decide⟩
  | 4, _ => ⟨16, rfl, by decide, by decide⟩
  | 5, _ => ⟨32, rfl, by decide, by decide⟩
  | i + 6, h => by omega
theorem seven : ∀ i : Nat, 1 ≤ i → i ≤ 6 → ∃ d : Int, ([V.int 1, V.int 2, V.int 4, V.int 8, V.int 16, V.int 32, V.int 64] : List V)[i]? = some (.int d) ∧ 2 ≤ d ∧ d ≤ 64
  | 0, h, _ => by omega
  | 1, _, _ => ⟨2, rfl, by decide, by decide⟩
  | 2, _, _ => ⟨4, rfl, by decide, by decide⟩
  | 3, _, _ => ⟨8, rfl, by decide, by decide⟩
  | 4, _, _ => ⟨16, rfl, by decide, by decide⟩
  | 5, _, _ => ⟨32, rfl, by decide, by decide⟩
  | 6, _, _ => ⟨64, rfl, by decide, by decide⟩
  | i + 7, _, h => by omega
def spWords : Sp := fun vs H Q _ => ∃ (b c : Addr) (n : Nat) (least : Int), vs = [.ref b, .int n, .int least] ∧ BoxAt H b c ∧ 1 ≤ n ∧ n ≤ 6 ∧ 0 ≤ least ∧ least ≤ 1 ∧
  ∀ H' l ws, BoxAt H' b c → Same (off b H) (off b H') → off b H l = none → off b H' l = some (.lst (vI ws)) → Can n ws → Q (.ref l) H'
structure Lt (K : PySem.W.Frag) (mg : Str → Option Value) : Prop where
  B : Bt mg
  take : ∃ f fd, Fun K "_law_take" "_law_take" sTake f fd ∧ mg "_law_take" = some (.ref f) ∧ Binds K fd ["_law_box_here", "_law_many"] []
  words : ∃ f fd, Fun K "_law_words" "_law_words" sWords f fd ∧ mg "_law_words" = some (.ref f) ∧ Binds K fd ["_law_box_here", "_law_n", "_law_least"] []
section
variable {P : Program} {w : World} {K : PySem.W.Frag} {mg : Str → Option Value} {base : Heap}
theorem scWords : FnScope ["_law_box_here", "_law_n", "_law_least", "_law_mask", "_law_word"] ["_law_box_here", "_law_n", "_law_least"] (defScope sWords) := ⟨rfl, rfl, rfl, by decide +kernel, rfl, by decide +kernel, by decide +kernel⟩
theorem off_free {b l : Addr} {H : Hp} (h : H l = none) : off b H l = none := by
  by_cases e : l = b
  · rw [e, off_at]
  · rw [off_ne e]; exact h
theorem ok_words {f : Addr} {fd : FuncData} (F : Fun K "_law_words" "_law_words" sWords f fd) (S : Lt K mg) : FnOk P w K mg base CX0 2 f fd ["_law_box_here", "_law_n", "_law_least"] spWords := by
  obtain ⟨fT, fdT, FT, mT, bT⟩ := S.take
  refine F.ok scWords (fun vs H Q E h => ?_) (fun cdv A outer s H vs Q E hr h => ?_)
  · obtain ⟨b, c, n, least, rfl, _⟩ := h
    rfl
  · obtain ⟨b, c, n, least, rfl, hb, n1, n6, l0, l1, k⟩ := h
    refine ⟨_, pss_cons (ps_set (i := 3) scWords.nd rfl (Or.inr rfl) (pe_op op_add (pv 2) (pe_call (ok_take FT S.B) hr rfl mT FT.kp bT .nil pass0 (pa_cons (pv 0) (pa_cons (pe_op op_sub
        (pe_ix ix_list (pe_lst (pa_cons pe_int (pa_cons pe_int (pa_cons pe_int (pa_cons pe_int (pa_cons pe_int (pa_cons pe_int (pa_cons pe_int pa_nil)))))))) (pv 1) (fun _ _ => rfl)) (pv 2)) pa_nil)))))
      (pss_one (ps_ret (pe_lc (own := [("_law_word", 4)]) (g := gName 4)
          (tt := tTest (tOp rEq (tOp (rI (fun _ j => 0 < j) fun i j => .int (i % j)) (tCB (fun xs H Q => (∃ i, xs = [.int i] ∧ Q (.int i) H) ∨ ∃ k, xs = [.bl k] ∧ Q (.int (if k then 1 else 0)) H) (tCons (tOp (rI CDiv fun i j => .int (i / j)) (tVar 3)
            (tOp (rIxL K) (tLst (tCons (tC (.int 1)) (tCons (tC (.int 2)) (tCons (tC (.int 4)) (tCons (tC (.int 8)) (tCons (tC (.int 16)) (tCons (tC (.int 32)) tNil))))))) (tVar 4))) tNil)) (tC (.int 2))) (tC (.int 1))))
          rfl scWords.nd (pi_range1 (by rfl) S.B.range (pa_cons (pv 1) pa_nil)) (blkOk_by (own := [("_law_word", 4)]) (N := ["_law_box_here", "_law_n", "_law_least", "_law_mask", "_law_word"]) (sc := defScope sWords) (by decide +kernel))
          (fun _ _ _ _ _ => pg_name (i := 4) scWords.nd rfl (Or.inl rfl))
          (fun _ _ _ _ _ => pts_one (pt_cmpR op_eq (pe_op op_mod (pe_callTy call_int1 (by rfl) S.B.int (by decide +kernel) (pa_cons (pe_op op_fdiv (pv 3)
            (pe_ix ix_list (pe_lst (pa_cons pe_int (pa_cons pe_int (pa_cons pe_int (pa_cons pe_int (pa_cons pe_int (pa_cons pe_int pa_nil))))))) (pv 4) (fun _ _ => rfl))) pa_nil)) pe_int) pe_int (nomark _)))
          (fun _ _ _ _ _ => pv 4)))), ?_⟩
    obtain ⟨d, hd, d2, d64⟩ := seven n n1 n6
    refine ⟨_, rfl, _, rfl, by show 7 ≤ sizeLine; decide, fun p hp => ?_⟩
    refine ⟨_, rfl, p, _, n, _, rfl, rfl, SqL.of upd_same, atI_nat hd, _, rfl, _, _, rfl, rfl, ?_⟩
    have pb := hb.ne hp
    have s0 := Same.new (H := H) (o := .lst [V.int 1, V.int 2, V.int 4, V.int 8, V.int 16, V.int 32, V.int 64]) hp
    refine ⟨b, c, d - least, rfl, hb.same s0, by omega, by omega, fun r H1 hr1 hb1 so1 => ?_⟩
    refine ⟨_, _, rfl, rfl, ?_⟩
    have so := L2.Same.trans (Same.off (b := b) s0) so1
    refine ⟨_, rfl, n, rfl, by omega, by omega, fun D hD => ?_⟩
    have nDb := hb1.ne hD
    have hDo : off b H D = none := so.free (off_free hD)
    refine lc_range (lo := 0) (n := n) (fun i H' => Same H1 H' ∧ ∃ ws, H' D = some (.lst (vI ws)) ∧ Can i ws) ⟨Same.new hD, [], upd_same, .nil⟩ ?_ ?_
    · rintro i H2 hi ⟨s2, ws, hd2, hc⟩
      obtain ⟨e, he, e0, e1⟩ := six i (by omega)
      refine ⟨rfl, ?_⟩
      refine ⟨_, rfl, by show 6 ≤ sizeLine; decide, fun q hq => ?_⟩
      have nDq : D ≠ q := ne_of_none hd2 hq
      have s3 := Same.new (H := H2) (o := .lst [V.int 1, V.int 2, V.int 4, V.int 8, V.int 16, V.int 32]) hq
      refine ⟨_, rfl, q, _, _, _, rfl, rfl, SqL.of upd_same, at_of (j := i) (by omega) he, _, _, rfl, rfl, ⟨e0, e1⟩, .inl ⟨_, rfl, _, _, rfl, rfl, (by show (0 : Int) < 2; decide), rfl, _, rfl, ?_⟩⟩
      refine ite2 (fun _ => ?_) (fun _ => ?_)
      · refine ⟨_, rfl, _, s3 _ _ hd2, ?_, Same.updN (s2.trans s3) hD, ws ++ [(i : Int)], ?_, hc.add⟩
        · rw [vI_len]
          exact Nat.lt_of_le_of_lt (Nat.le_trans hc.len (by omega : i ≤ 6)) (by decide)
        · rw [upd_same]
          unfold vI
          rw [List.map_append, Int.zero_add]
          rfl
      · exact ⟨s2.trans s3, ws, s3 _ _ hd2, hc.skip⟩
    · rintro H2 ⟨s2, ws, hd2, hc⟩
      exact k H2 D ws (hb1.same s2) (so.trans (Same.off s2)) hDo (by rw [off_ne nDb]; exact hd2) hc
end
end Toy
namespace Toy
open PySem L2
/-! ### data compared -/
def dI (ns : List Int) : List PyData := ns.map PyData.int
theorem eqv_dI : ∀ a b : List Int, PyData.eqvAll (dI a) (dI b) = decide (a = b)
  | [], [] => by simp [dI, PyData.eqvAll]
  | [], _ :: _ => by simp [dI, PyData.eqvAll]
  | _ :: _, [] => by simp [dI, PyData.eqvAll]
  | x :: a, y :: b => by
    have ih := eqv_dI a b
    show PyData.eqvAll (.int x :: dI a) (.int y :: dI b) = _
    rw [PyData.eqvAll, PyData.eqv, ih]
    by_cases h : x = y
    · subst h
      simp
    · simp [h]
theorem lay_dI : ∀ a : List Int, PyData.canLayAll0 (dI a) = true
  | [] => rfl
  | x :: a => by
    show (PyData.canLay0 (.int x) && PyData.canLayAll0 (dI a)) = true
    rw [lay_dI a]
    rfl
theorem dep_dI : ∀ a : List Int, PyData.depthAll (dI a) = 0
  | [] => rfl
  | x :: a => by
    show max (PyData.depth (.int x)) (PyData.depthAll (dI a)) = 0
    rw [dep_dI a]
    rfl
theorem shI (a : List Int) : SeqAt.shaped (.list (dI a)) = true := by
  show (PyData.canLayAll0 (dI a) && decide (PyData.depthAll (dI a) + 1 ≤ 64)) = true
  rw [lay_dI, dep_dI]
  rfl
theorem eqI (a b : List Int) : PyData.eqv (.list (dI a)) (.list (dI b)) = decide (a = b) := by rw [PyData.eqv, eqv_dI]
theorem dpAllI {K : PySem.W.Frag} {H : Hp} : ∀ a : List Int, DpAll K H (vI a) (dI a)
  | [] => .nil
  | x :: a => .cons (.int x) (dpAllI a)
theorem dpI {K : PySem.W.Frag} {H : Hp} {l : Addr} {a : List Int} (h : SqL K H l (vI a)) : Dp K H (.ref l) (.list (dI a)) := .lst h (dpAllI a)
/-! ### rows that are new -/
theorem RowsN.same {G0 G G' : Hp} {ls R} (s : Same G G') (h : RowsN G0 G ls R) : RowsN G0 G' ls R := L2.Paired.mapP h fun _ _ ⟨t, e, q, z⟩ => ⟨t, e, s _ _ q, z⟩
theorem RowsN.rows {G0 G : Hp} {ls R} (h : RowsN G0 G ls R) : RowsL G ls R := L2.Paired.mapP h fun _ _ ⟨t, e, q, z⟩ => ⟨t, e, q⟩
theorem RowsN.snoc {G0 G : Hp} {l t : Addr} {o : HO} {ls R r} (h : RowsN G0 G ls R) (nl : ∀ v ∈ ls, v ≠ .ref l) (ht : G t = some (.lst (vI r))) (h0 : G0 t = none) (n : t ≠ l) :
    RowsN G0 (upd G l o) (ls ++ [.ref t]) (R ++ [r]) ∧ ∀ v ∈ ls ++ [V.ref t], v ≠ .ref l := by
  refine ⟨L2.Paired.snoc ⟨t, rfl, by rw [upd_ne n]; exact ht, h0⟩ (PairedIn.map h fun v r hv ⟨t', e, q, z⟩ => ⟨t', e, ?_, z⟩), fun v hv => ?_⟩
  · rw [upd_ne fun z => nl v hv (by rw [e, z])]
    exact q
  · rcases List.mem_append.mp hv with hv | hv
    · exact nl v hv
    · rw [List.mem_singleton.mp hv]
      exact fun z => n (V.ref.inj z)
def spRowsL : Sp := fun vs H Q _ => ∃ (b c : Addr) (n : Nat) (least : Int), vs = [.ref b, .int n, .int least] ∧ BoxAt H b c ∧ 1 ≤ n ∧ n ≤ 6 ∧ 0 ≤ least ∧ least ≤ 1 ∧
  ∀ H' l ls R, BoxAt H' b c → Same (off b H) (off b H') → off b H l = none → off b H' l = some (.lst ls) → RowsN (off b H) (off b H') ls R → R.length = n → (∀ r ∈ R, Can n r) → Q (.ref l) H'
theorem tf_rows' (n : Nat) (tr tp : Addr) : (tf n tr tp).lookup ("rows" : Str) = none := tf_no _ _ _ (by decide +kernel) (by decide +kernel) (by decide +kernel)
end Toy
namespace L2
open PySem PySem.Spec PyProof.Rows
section
variable {X : Cx} {CX : CXT} {k : Nat} {C f : Addr} {fd : FuncData} {ps : List Str} {sp : Sp} {E : XK} {a b : Expr} {ta tb : TE} {pos : Pos}
end
section
variable {X : Cx} {CX : CXT} {k : Nat} {C g : Addr} {sp : Sp} {E : XK} {fe e : Expr} {es : List Expr} {tf : TE} {t : TA} {pos : Pos}
end
end L2
namespace Toy
open PySem PySem.Spec PyProof.Rows L2
/-! ### equal lists of flat things -/
def flatD : V → PyData
  | .bl b => .bool b
  | .int i => .int i
  | .str s => .str s
  | _ => .none
def flatOk : V → Bool
  | .bl _ => true
  | .int _ => true
  | .str s => PyData.canLay0 (.str s)
  | .non => true
  | _ => false
theorem dpF {K : PySem.W.Frag} {H : Hp} : ∀ {v : V}, flatOk v = true → Dp K H v (flatD v)
  | .bl b, _ => .bl b
  | .int i, _ => .int i
  | .str s, _ => .str s
  | .non, _ => .non
theorem dpAllF {K : PySem.W.Frag} {H : Hp} : ∀ {xs : List V}, xs.all flatOk = true → DpAll K H xs (xs.map flatD)
  | [], _ => .nil
  | v :: r, h => by
    rw [List.all_cons, Bool.and_eq_true] at h
    exact .cons (dpF h.1) (dpAllF h.2)
theorem layF : ∀ {v : V}, flatOk v = true → PyData.canLay0 (flatD v) = true ∧ PyData.depth (flatD v) = 0
  | .bl b, _ => ⟨rfl, rfl⟩
  | .int i, _ => ⟨rfl, rfl⟩
  | .str s, h => ⟨h, rfl⟩
  | .non, _ => ⟨rfl, rfl⟩
theorem layAllF : ∀ {xs : List V}, xs.all flatOk = true → PyData.canLayAll0 (xs.map flatD) = true ∧ PyData.depthAll (xs.map flatD) = 0
  | [], _ => ⟨rfl, rfl⟩
  | v :: r, h => by
    rw [List.all_cons, Bool.and_eq_true] at h
    have ⟨a1, a2⟩ := layF h.1
    have ⟨b1, b2⟩ := layAllF h.2
    constructor
    · show (PyData.canLay0 (flatD v) && PyData.canLayAll0 (r.map flatD)) = true
      rw [a1, b1]
      rfl
    · show max (PyData.depth (flatD v)) (PyData.depthAll (r.map flatD)) = 0
      rw [a2, b2]
      rfl
theorem shF {xs : List V} (h : xs.all flatOk = true) : SeqAt.shaped (.list (xs.map flatD)) = true := by
  have ⟨a, b⟩ := layAllF h
  show (PyData.canLayAll0 (xs.map flatD) && decide (PyData.depthAll (xs.map flatD) + 1 ≤ 64)) = true
  rw [a, b]
  rfl
/-- two lists of the same flat things, asked by != in a test -/
theorem neF {K : PySem.W.Frag} {H : Hp} {p q : Addr} {xs : List V} {R : Bool → Hp → Prop} (hp : H p = some (.lst xs)) (hq : H q = some (.lst xs)) (ok : xs.all flatOk = true) (h : R false H) : rNeD K (.ref p) (.ref q) H fun v H' => ∃ k, v = .bl k ∧ R k H' := by
  refine ⟨_, _, .lst (SqL.of hp) (dpAllF ok), .lst (SqL.of hq) (dpAllF ok), shF ok, shF ok, _, rfl, ?_⟩
  rw [SeqAt.eqv_refl _ (SeqAt.canLay_of_shaped (shF ok))]
  exact h
/-! ### parts of a list -/
theorem vI_app (x y : List Int) : vI x ++ vI y = vI (x ++ y) := by unfold vI; rw [List.map_append]
end Toy
namespace Toy
open PySem L2
section
variable {P : Program} {w : World} {K : PySem.W.Frag} {mg : Str → Option Value} {base : Heap}
theorem scRowsL : FnScope ["_law_box_here", "_law_n", "_law_least", "_law_rows_here", "_law_k"] ["_law_box_here", "_law_n", "_law_least"] (defScope sRowsL) := ⟨rfl, rfl, rfl, by decide +kernel, rfl, by decide +kernel, by decide +kernel⟩
theorem ok_rowsL {f : Addr} {fd : FuncData} (F : Fun K "_law_rows" "_law_rows" sRowsL f fd) (S : Lt K mg) : FnOk P w K mg base CX0 3 f fd ["_law_box_here", "_law_n", "_law_least"] spRowsL := by
  obtain ⟨fT, fdT, FT, mT, bT⟩ := S.take
  obtain ⟨fW, fdW, FW, mW, bW⟩ := S.words
  refine F.ok scRowsL (fun vs H Q E h => ?_) (fun cdv A outer s H vs Q E hr h => ?_)
  · obtain ⟨b, c, n, least, rfl, _⟩ := h
    rfl
  · obtain ⟨b, c, n, least, rfl, hb, n1, n6, l0, l1, k⟩ := h
    have hr1 : Room 1 _ := hr.mono (by decide)
    refine ⟨_, pss_cons (ps_set (i := 3) scRowsL.nd rfl (Or.inl rfl) (pe_lst pa_nil))
      (pss_cons (ps_for PassesOwn.never rfl (pi_range1 (by rfl) S.B.range (pa_cons (pv 1) pa_nil)) (pg_name (i := 4) scRowsL.nd rfl (Or.inl rfl))
        (pss_one (ps_if (pt_cmpR op_eq (pe_call (ok_take FT S.B) hr1 rfl mT FT.kp bT .nil pass0 (pa_cons (pv 0) (pa_cons pe_int pa_nil))) pe_int (nomark _))
          (pss_one (ps_expr (pe_bm PySem.F.plainAttrs_list PySem.F.slot_list_append PySem.F.type_list_append mt_append (pv 3) (pa_cons (pe_lst (pa_cons (pe_call (ok_take FT S.B) hr1 rfl mT FT.kp bT .nil pass0 (pa_cons (pv 0) (pa_cons (pv 1) pa_nil))) pa_nil)) pa_nil))))
          (pss_one (ps_expr (pe_bm PySem.F.plainAttrs_list PySem.F.slot_list_append PySem.F.type_list_append mt_append (pv 3) (pa_cons (pe_call (ok_words FW S) hr rfl mW FW.kp bW .nil pass0 (pa_cons (pv 0) (pa_cons (pv 1) (pa_cons (pv 2) pa_nil)))) pa_nil)))))))
      (pss_one (ps_ret (pv 3)))), ?_⟩
    refine ⟨Nat.zero_le _, fun l hl => ?_⟩
    have lb := hb.ne hl
    have lc := hb.nec hl
    refine ⟨_, rfl, n, rfl, by omega, by omega, ?_⟩
    refine for_range (lo := 0) (n := n) (fun i σ H' => ∃ (v : Option V) (ls : List V) (R : List (List Int)), σ = [some (.ref b), some (.int n), some (.int least), some (.ref l), v] ∧ BoxAt H' b c ∧ Same (off b H) (off b H') ∧
        off b H' l = some (.lst ls) ∧ RowsN (off b H) (off b H') ls R ∧ (∀ v ∈ ls, v ≠ .ref l) ∧ R.length = i ∧ ∀ r ∈ R, Can n r)
      ⟨none, [], [], rfl, hb.same (Same.new hl), by rw [off_updN lb]; exact Same.new (off_free hl), by rw [off_ne lb]; exact upd_same, .nil, fun _ h => (by cases h), rfl, fun _ h => (by cases h)⟩ ?_ ?_
    · rintro i σ H1 hi ⟨v, ls, R, rfl, hb1, s1, hl1, hR, nl, eR, hC⟩
      have hlen : ls.length ≤ 6 := by rw [Paired.length hR]; omega
      refine ⟨_, rfl, b, c, 3, rfl, hb1, by decide, by decide, fun r1 H2 hr1 hb2 s2 => ?_⟩
      refine ⟨rfl, _, rfl, ?_⟩
      have hl2 := s2 _ _ hl1
      refine ite2 (fun _ => ?_) (fun _ => ?_)
      · refine ⟨_, rfl, .inl ⟨rfl, _, SqL.of (off_le _ _ hl2)⟩, _, rfl, _, rfl, b, c, (n : Int), rfl, hb2, by omega, by omega, fun r H3 hr3 hb3 s3 => ?_⟩
        refine ⟨by show 1 ≤ sizeLine; decide, fun q hq => ?_⟩
        have qb := hb3.ne hq
        have hl3 := s3 _ _ hl2
        have s4 : Same (off b H3) (off b (upd H3 q (.lst [V.int (r : Int)]))) := Same.off (Same.new hq)
        have hl4 := s4 _ _ hl3
        have hq4 : off b (upd H3 q (.lst [V.int (r : Int)])) q = some (.lst (vI [(r : Int)])) := by rw [off_ne qb]; exact upd_same
        have hb4 := hb3.same (Same.new (o := .lst [V.int (r : Int)]) hq)
        have q0 : off b H q = none := (s1.trans (s2.trans s3)).free (off_free hq)
        have ql : q ≠ l := (ne_of_none hl3 (off_free hq)).symm
        have sT := s2.trans (s3.trans s4)
        have hRT := RowsN.same sT hR
        generalize upd H3 q (.lst [V.int (r : Int)]) = H4 at s4 hl4 hq4 hb4 sT hRT
        obtain ⟨z1, z2⟩ := RowsN.snoc (o := .lst (ls ++ [.ref q])) hRT nl hq4 q0 ql
        refine ⟨l, ls, _, rfl, rfl, off_le _ _ hl4, Nat.lt_of_le_of_lt hlen (by decide), _, ls ++ [.ref q], R ++ [[(r : Int)]], rfl, ?_, ?_, ?_, ?_, z2, by rw [List.length_append, eR]; rfl, ?_⟩
        · exact hb4.upd lb lc
        · rw [off_updN lb]
          exact Same.updN (s1.trans sT) (off_free hl)
        · rw [off_updN lb]; exact upd_same
        · rw [off_updN lb]; exact z1
        · intro r' h
          rcases List.mem_append.mp h with h | h
          · exact hC _ h
          · rw [List.mem_singleton.mp h]
            exact Can.one (by omega)
      · refine ⟨_, rfl, .inl ⟨rfl, _, SqL.of (off_le _ _ hl2)⟩, _, rfl, _, rfl, _, rfl, b, c, n, least, rfl, hb2, n1, n6, l0, l1, fun H3 q ws hb3 s3 q0 hq hC' => ?_⟩
        have hl3 := s3 _ _ hl2
        have ql : q ≠ l := (ne_of_none hl2 q0).symm
        have q00 : off b H q = none := (s1.trans s2).free q0
        have sT := s2.trans s3
        have hRT := RowsN.same sT hR
        obtain ⟨z1, z2⟩ := RowsN.snoc (o := .lst (ls ++ [.ref q])) hRT nl hq q00 ql
        refine ⟨l, ls, _, rfl, rfl, off_le _ _ hl3, Nat.lt_of_le_of_lt hlen (by decide), _, ls ++ [.ref q], R ++ [ws], rfl, hb3.upd lb lc, ?_, ?_, ?_, z2, by rw [List.length_append, eR]; rfl, ?_⟩
        · rw [off_updN lb]
          exact Same.updN (s1.trans sT) (off_free hl)
        · rw [off_updN lb]; exact upd_same
        · rw [off_updN lb]; exact z1
        · intro r' h
          rcases List.mem_append.mp h with h | h
          · exact hC _ h
          · rw [List.mem_singleton.mp h]
            exact hC'
    · rintro σ H1 ⟨v, ls, R, rfl, hb1, s1, hl1, hR, nl, eR, hC⟩
      exact ⟨_, rfl, k H1 l ls R hb1 s1 (off_free hl) hl1 hR eR hC⟩
end
end Toy
namespace Toy
open PySem L2
theorem Tab.off {C b c : Addr} {H : Hp} {p : Addr} {R} (h : Tab C H p R) (hb : BoxAt H b c) : Tab C (Toy.off b H) p R := by
  obtain ⟨dx, tr, tp, ts, qs, h1, h2, h3, h4, h5, h6, h7⟩ := h
  obtain ⟨cs, i, pd, st, e, _⟩ := hb
  have ne : ∀ {a : Addr} {o : HO}, H a = some o → o ≠ .lst [.ref c, .int i, .int pd, .int st] → Toy.off b H a = some o := fun q d => by rw [off_ne (ne_of q e d)]; exact q
  exact ⟨dx, tr, tp, ts, qs, ne h1 (fun z => nomatch z), ne h2 (fun z => nomatch z), ne h3 (fun z => nomatch z), L2.Paired.mapP h4 fun _ _ ⟨t, e, q⟩ => ⟨t, e, ne q (fun z => nomatch z)⟩, ne h5 (fun z => nomatch z), L2.Paired.mapP h6 fun _ _ ⟨t, e, q⟩ => ⟨t, e, ne q (fun z => nomatch z)⟩, h7⟩
theorem Tab.updL {C : Addr} {H : Hp} {p a : Addr} {xs ys : List V} {R} (h : Tab C H p R) (e : H a = some (.lst xs)) : Tab C (upd H a (.lst ys)) p R := by
  obtain ⟨dx, tr, tp, ts, qs, h1, h2, h3, h4, h5, h6, h7⟩ := h
  have ne : ∀ {b : Addr} {o : HO}, H b = some o → o ≠ .lst xs → upd H a (.lst ys) b = some o := fun q d => by rw [upd_ne (ne_of q e d)]; exact q
  exact ⟨dx, tr, tp, ts, qs, ne h1 (fun z => nomatch z), ne h2 (fun z => nomatch z), ne h3 (fun z => nomatch z), L2.Paired.mapP h4 fun _ _ ⟨t, e, q⟩ => ⟨t, e, ne q (fun z => nomatch z)⟩, ne h5 (fun z => nomatch z), L2.Paired.mapP h6 fun _ _ ⟨t, e, q⟩ => ⟨t, e, ne q (fun z => nomatch z)⟩, h7⟩
theorem Paired.mem {α β : Type} {F : α → β → Prop} {xs : List α} {ys : List β} (h : Paired F xs ys) {x : α} (m : x ∈ xs) : ∃ y, y ∈ ys ∧ F x y := by
  obtain ⟨i, hi⟩ := List.mem_iff_getElem?.mp m
  obtain ⟨y, hy, f⟩ := L2.Paired.at h hi
  exact ⟨y, List.mem_of_getElem? hy, f⟩
/-- a table made of canonical rows has these rows -/
theorem same_rows {n : Nat} : ∀ {R : List (List Int)}, (∀ r ∈ R, Can n r) → (R.map fun g => asc g n) = R
  | [], _ => rfl
  | r :: R, c => by
    have ih := same_rows fun r hr => c r (List.mem_cons_of_mem _ hr)
    have cr : asc r n = r := c r List.mem_cons_self
    rw [List.map_cons, ih, cr]
theorem can_all {n : Nat} {R : List (List Int)} (hC : ∀ r ∈ R, Can n r) (h6 : n ≤ 6) : ∀ g ∈ R, g.length < sizeLine ∧ g.all (isW n) = true := fun g hg => by
  refine ⟨Nat.lt_of_le_of_lt (Nat.le_trans (hC g hg).len h6) (by decide), List.all_eq_true.mpr fun x hx => ?_⟩
  have := (hC g hg).mem hx
  unfold isW
  rw [decide_eq_true this.1, decide_eq_true this.2]
  rfl
theorem BoxAt.keep {H H' : Hp} {b c x : Addr} (h : BoxAt H b c) (hx : H x = none) (k : ∀ q o, q ≠ x → H q = some o → H' q = some o) : BoxAt H' b c :=
  h.same fun q o e => k q o (ne_of_none e hx) e
def spLaw (K : PySem.W.Frag) : Sp := fun vs H Q _ => ∃ (a : Addr) (ns : List Int), vs = [.ref a] ∧ SqL K H a (ns.map V.int) ∧ ns.length ≤ 63 ∧ ∀ H', Q (.bl true) H'
end Toy
namespace L2
open PySem PySem.Spec PyProof.Rows
end L2
namespace Toy
open PySem L2
/-! ### the words below n of which p holds -/
def filt (n : Nat) (p : Nat → Bool) : List Int := ((List.range n).filter p).map fun (i : Nat) => (i : Int)
theorem filt_succ (n : Nat) (p : Nat → Bool) : filt (n + 1) p = if p n = true then filt n p ++ [(n : Int)] else filt n p := by
  unfold filt
  rw [List.range_succ, List.filter_append]
  by_cases h : p n = true
  · rw [if_pos h]
    simp [h]
  · rw [if_neg h]
    simp [h]
theorem filt_mem {n : Nat} {p : Nat → Bool} {j : Nat} : ((j : Int) ∈ filt n p) ↔ (j < n ∧ p j = true) := by
  unfold filt
  simp only [List.mem_map, List.mem_filter, List.mem_range]
  constructor
  · rintro ⟨i, h, e⟩
    have : i = j := by omega
    subst this
    exact h
  · exact fun h => ⟨j, h, rfl⟩
theorem filt_congr {n : Nat} {p q : Nat → Bool} (h : ∀ j, j < n → p j = q j) : filt n p = filt n q := by
  unfold filt
  congr 1
  exact List.filter_congr fun j hj => h j (List.mem_range.mp hj)
theorem filt_can {n : Nat} (p : Nat → Bool) : Can n (filt n p) := by
  show filt n (fun i => decide ((i : Int) ∈ filt n p)) = filt n p
  refine filt_congr fun j hj => ?_
  by_cases c : p j = true
  · rw [c, decide_eq_true (filt_mem.mpr ⟨hj, c⟩)]
  · rw [decide_eq_false fun z => c (filt_mem.mp z).2]
    simpa using c
/-- a row of a table -/
def row (R : List (List Int)) (j : Nat) : List Int := R.getD j []
theorem row_of {R : List (List Int)} {j : Nat} {r : List Int} (h : R[j]? = some r) : row R j = r := by
  unfold row
  rw [List.getD_eq_getElem?_getD, h]
  rfl
theorem at_row {R : List (List Int)} {j : Nat} (h : j < R.length) : R[j]? = some (row R j) := by
  unfold row
  rw [List.getD_eq_getElem?_getD, List.getElem?_eq_getElem h]
  rfl
/-- ~ -/
def inv (R : List (List Int)) : List (List Int) := (List.range R.length).map fun (w : Nat) => filt R.length fun t => decide ((w : Int) ∈ row R t)
def CanR (n : Nat) (R : List (List Int)) : Prop := R.length = n ∧ ∀ r ∈ R, Can n r
theorem CanR.row {n : Nat} {R : List (List Int)} (c : CanR n R) {j : Nat} (h : j < n) : Can n (row R j) := c.2 _ (List.mem_of_getElem? (at_row (by rw [c.1]; exact h)))
end Toy
namespace Toy
open PySem L2
theorem rgV_vI (n : Nat) : rgV 0 (n : Int) = vI ((List.range n).map fun (i : Nat) => (i : Int)) := by
  unfold rgV vI
  rw [List.map_map]
  have e : ((n : Int) - 0).toNat = n := by omega
  rw [e]
  refine List.map_congr_left fun i _ => ?_
  show V.int (0 + (i : Int)) = V.int (i : Int)
  rw [Int.zero_add]
theorem RowsL.snoc {G : Hp} {l t : Addr} {o : HO} {ls R r} (h : RowsL G ls R) (nl : ∀ v ∈ ls, v ≠ .ref l) (ht : G t = some (.lst (vI r))) (n : t ≠ l) :
    RowsL (upd G l o) (ls ++ [.ref t]) (R ++ [r]) ∧ ∀ v ∈ ls ++ [V.ref t], v ≠ .ref l := by
  refine ⟨L2.Paired.snoc ⟨t, rfl, by rw [upd_ne n]; exact ht⟩ (PairedIn.map h fun v r hv ⟨t', e, q⟩ => ⟨t', e, ?_⟩), fun v hv => ?_⟩
  · rw [upd_ne fun z => nl v hv (by rw [e, z])]
    exact q
  · rcases List.mem_append.mp hv with hv | hv
    · exact nl v hv
    · rw [List.mem_singleton.mp hv]
      exact fun z => n (V.ref.inj z)
section
variable {P : Program} {w : World} {K : PySem.W.Frag} {mg : Str → Option Value} {base : Heap}
end
end Toy
namespace Toy
open PySem L2
/-- Table(rows), the rows canonical -/
theorem init_of {K : PySem.W.Frag} {C D : Addr} {H5 : Hp} {ks : List V} {R : List (List Int)} {n : Nat} {E : XK} {Z : Addr → Hp → Prop} (hk : H5 D = some (.lst ks)) (hKs : RowsL H5 ks R) (c : CanR n R) (n1 : 1 ≤ n) (n6 : n ≤ 6)
    (hz : ∀ H6 x, Same H5 H6 → H5 x = none → Tab C H6 x R → Z x H6) : ∀ x dx, H5 x = none → H5 dx = none → dx ≠ x → spInit K C (.ref x :: ([.ref D] ++ [])) (upd (upd H5 dx (.own x)) x (.ins C dx [])) (fun v H2 => v = .non ∧ Z x H2) E := by
  intro x dx hx hdx ndx
  have s6 : Same H5 (upd (upd H5 dx (.own x)) x (.ins C dx [])) := Same.upd (Same.new hdx) (by rw [upd_ne ndx.symm]; exact hx)
  have cl := c.1
  refine ⟨x, dx, D, ks, R, rfl, upd_same, by rw [upd_ne ndx]; exact upd_same, s6 _ _ hk, RowsL.same s6 hKs, by omega, by omega, by rw [cl]; exact can_all c.2 n6, fun H6 k6 hT => ⟨rfl, ?_⟩⟩
  rw [cl, same_rows c.2] at hT
  exact hz H6 x (fun q o e => k6 q o (ne_of_none e hx) (s6 _ _ e)) hx hT
end Toy
namespace Toy
open PySem PySem.Spec PyProof.Rows L2
/-! ## the program's errors, and the def that asks which one an error is -/
abbrev sSingle : Stmt := topE 33
/-- where the classes stand -/
structure Errs where
  M : Addr
  c0 : Addr
  c1 : Addr
  c2 : Addr
  c3 : Addr
  c4 : Addr
  c5 : Addr
  c6 : Addr
  c7 : Addr
  c8 : Addr
  c9 : Addr
  c10 : Addr
  c11 : Addr
  c12 : Addr
  c13 : Addr
  c14 : Addr
  c15 : Addr
  c16 : Addr
  c17 : Addr
  c18 : Addr
structure ErrG (mg : Str → Option Value) (r : Errs) : Prop where
  m : mg "MurmurError" = some (.ref r.M)
  e0 : mg "BadSize" = some (.ref r.c0)
  e1 : mg "BadTable" = some (.ref r.c1)
  e2 : mg "UnknownWord" = some (.ref r.c2)
  e3 : mg "SizeMismatch" = some (.ref r.c3)
  e4 : mg "BadCount" = some (.ref r.c4)
  e5 : mg "BadPerson" = some (.ref r.c5)
  e6 : mg "BadLetter" = some (.ref r.c6)
  e7 : mg "UnknownPerson" = some (.ref r.c7)
  e8 : mg "TooMany" = some (.ref r.c8)
  e9 : mg "BadPattern" = some (.ref r.c9)
  e10 : mg "SameWord" = some (.ref r.c10)
  e11 : mg "UnknownClue" = some (.ref r.c11)
  e12 : mg "BadPlace" = some (.ref r.c12)
  e13 : mg "TooLong" = some (.ref r.c13)
  e14 : mg "Melted" = some (.ref r.c14)
  e15 : mg "NothingToUndo" = some (.ref r.c15)
  e16 : mg "NothingToRedo" = some (.ref r.c16)
  e17 : mg "Refused" = some (.ref r.c17)
  e18 : mg "BadLine" = some (.ref r.c18)
  v : mg "ValueError" = none
  i : mg "isinstance" = none
  l : mg "len" = none
/-- the errors of the class D are of one class of the program alone -/
structure KitsG (K : PySem.W.Frag) (r : Errs) (D : Addr) : Prop where
  x : ExcC K D
  m : PySem.W.kitOne K (.ref D) (.ref r.M) = some true
  v : PySem.W.kitOne K (.ref D) (.type "ValueError") = some true
  k : ∃ b0 b1 b2 b3 b4 b5 b6 b7 b8 b9 b10 b11 b12 b13 b14 b15 b16 b17 b18 : Bool, PySem.W.kitOne K (.ref D) (.ref r.c0) = some b0 ∧ PySem.W.kitOne K (.ref D) (.ref r.c1) = some b1 ∧ PySem.W.kitOne K (.ref D) (.ref r.c2) = some b2 ∧ PySem.W.kitOne K (.ref D) (.ref r.c3) = some b3 ∧ PySem.W.kitOne K (.ref D) (.ref r.c4) = some b4 ∧ PySem.W.kitOne K (.ref D) (.ref r.c5) = some b5 ∧ PySem.W.kitOne K (.ref D) (.ref r.c6) = some b6 ∧ PySem.W.kitOne K (.ref D) (.ref r.c7) = some b7 ∧ PySem.W.kitOne K (.ref D) (.ref r.c8) = some b8 ∧ PySem.W.kitOne K (.ref D) (.ref r.c9) = some b9 ∧ PySem.W.kitOne K (.ref D) (.ref r.c10) = some b10 ∧ PySem.W.kitOne K (.ref D) (.ref r.c11) = some b11 ∧ PySem.W.kitOne K (.ref D) (.ref r.c12) = some b12 ∧ PySem.W.kitOne K (.ref D) (.ref r.c13) = some b13 ∧ PySem.W.kitOne K (.ref D) (.ref r.c14) = some b14 ∧ PySem.W.kitOne K (.ref D) (.ref r.c15) = some b15 ∧ PySem.W.kitOne K (.ref D) (.ref r.c16) = some b16 ∧ PySem.W.kitOne K (.ref D) (.ref r.c17) = some b17 ∧ PySem.W.kitOne K (.ref D) (.ref r.c18) = some b18 ∧ ([b0, b1, b2, b3, b4, b5, b6, b7, b8, b9, b10, b11, b12, b13, b14, b15, b16, b17, b18].filter id).length = 1
def spSingle (K : PySem.W.Frag) (r : Errs) : Addr × Obj → Sp := fun p vs H Q _ => ∃ (D dd : Addr) (fs : List (Str × V)), vs = [.ref p.1] ∧ KitsG K r D ∧ Zc (.ref D) (some dd) p.2 ∧ (∃ vs, p.2.data = .fields vs) ∧ H dd = some (.xd fs) ∧ ∀ H', Same H H' → Q (.bl true) H'
abbrev NSi : List Str := ["_law_e", "_law_kinds", "_law_kind"]
theorem scSingle : FnScope NSi ["_law_e"] (defScope sSingle) := ⟨rfl, rfl, rfl, by decide +kernel, rfl, by decide +kernel, by decide +kernel⟩
theorem bl_at {bs : List Bool} {i : Nat} {y : V} (h : (bs.map V.bl)[i]? = some y) : ∃ b, bs[i]? = some b ∧ y = .bl b := by
  rw [List.getElem?_map] at h
  cases e : bs[i]? with
  | none => rw [e] at h; cases h
  | some b => rw [e] at h; exact ⟨b, rfl, (Option.some.inj h).symm⟩
theorem ones_more {bs : List Bool} {i : Nat} {b : Bool} (h : bs[i]? = some b) : List.replicate ((bs.take (i + 1)).filter id).length (V.int 1) = List.replicate ((bs.take i).filter id).length (V.int 1) ++ (if b = true then [V.int 1] else []) := by
  rw [take_more h, List.filter_append]
  cases b with
  | false => simp
  | true => simp [List.replicate_succ']
section
variable {P : Program} {w : World} {K : PySem.W.Frag} {mg : Str → Option Value} {base : Heap}
theorem ok_single {f : Addr} {r : Errs} {fd : FuncData} (F : Fun K "_law_single" "_law_single" sSingle f fd) (G : ErrG mg r) : FnE P w K mg base 1 f fd ["_law_e"] (spSingle K r) := by
  have ⟨oc, od, kV, doc, pm, an, cdv, ct, osl, e, lk, hcd⟩ := F.ex
  subst e
  refine fn_ofE lk hcd scSingle (fun p vs H Q E h => ?_) (fun p A outer s H vs Q hot room h => ?_)
  · obtain ⟨D, dd, fs, rfl, _⟩ := h
    rfl
  · obtain ⟨D, dd, fs, rfl, kg, hz, hf, hdd, k⟩ := h
    have isx : ∀ {x1 : Str} {t1 : TE} {q1 q2 q3 q4 : Pos}, PE (L2H.cxH CX0 P w K mg base NSi "_law_single" (defScope sSingle) f cdv A outer s H E0 p) (.Name x1 q4) t1 → PE (L2H.cxH CX0 P w K mg base NSi "_law_single" (defScope sSingle) f cdv A outer s H E0 p) (.Call (.Name "isinstance" q1) [.Name "_law_e" q2, .Name x1 q4] [] q3) (tCB (rIsEx K p) (tCons (tVar 0) (tCons t1 tNil))) :=
      fun h1 => pe_callB (call_isEx (List.mem_singleton.mpr rfl)) (by rfl) G.i (by decide +kernel) (pa_cons (pv 0) (pa_cons h1 pa_nil))
    refine ⟨_, (pss_cons (ps_set (i := 1) scSingle.nd rfl (Or.inl rfl) (pe_lst (pa_cons (isx (pe_glob rfl G.e0 (v := .ref r.c0) rfl)) (pa_cons (isx (pe_glob rfl G.e1 (v := .ref r.c1) rfl)) (pa_cons (isx (pe_glob rfl G.e2 (v := .ref r.c2) rfl)) (pa_cons (isx (pe_glob rfl G.e3 (v := .ref r.c3) rfl)) pa_nil))))))
      (pss_cons (ps_set (i := 1) scSingle.nd rfl (Or.inl rfl) (pe_op op_cat (pv 1) (pe_lst (pa_cons (isx (pe_glob rfl G.e4 (v := .ref r.c4) rfl)) (pa_cons (isx (pe_glob rfl G.e5 (v := .ref r.c5) rfl)) (pa_cons (isx (pe_glob rfl G.e6 (v := .ref r.c6) rfl)) pa_nil))))))
      (pss_cons (ps_set (i := 1) scSingle.nd rfl (Or.inl rfl) (pe_op op_cat (pv 1) (pe_lst (pa_cons (isx (pe_glob rfl G.e7 (v := .ref r.c7) rfl)) (pa_cons (isx (pe_glob rfl G.e8 (v := .ref r.c8) rfl)) (pa_cons (isx (pe_glob rfl G.e9 (v := .ref r.c9) rfl)) pa_nil))))))
      (pss_cons (ps_set (i := 1) scSingle.nd rfl (Or.inl rfl) (pe_op op_cat (pv 1) (pe_lst (pa_cons (isx (pe_glob rfl G.e10 (v := .ref r.c10) rfl)) (pa_cons (isx (pe_glob rfl G.e11 (v := .ref r.c11) rfl)) (pa_cons (isx (pe_glob rfl G.e12 (v := .ref r.c12) rfl)) pa_nil))))))
      (pss_cons (ps_set (i := 1) scSingle.nd rfl (Or.inl rfl) (pe_op op_cat (pv 1) (pe_lst (pa_cons (isx (pe_glob rfl G.e13 (v := .ref r.c13) rfl)) (pa_cons (isx (pe_glob rfl G.e14 (v := .ref r.c14) rfl)) (pa_cons (isx (pe_glob rfl G.e15 (v := .ref r.c15) rfl)) pa_nil))))))
      (pss_cons (ps_set (i := 1) scSingle.nd rfl (Or.inl rfl) (pe_op op_cat (pv 1) (pe_lst (pa_cons (isx (pe_glob rfl G.e16 (v := .ref r.c16) rfl)) (pa_cons (isx (pe_glob rfl G.e17 (v := .ref r.c17) rfl)) (pa_cons (isx (pe_glob rfl G.e18 (v := .ref r.c18) rfl)) pa_nil))))))
      (pss_one (ps_ret (pe_and (isx (pe_glob rfl G.m (v := .ref r.M) rfl)) (pe_and (isx (pe_bltn (by rfl) G.v (by decide +kernel) (v := .ty "ValueError") (u := .type "ValueError") rfl)) (pe_one (pe_cmpR op_eq (pe_callB call_len_seq (by rfl) G.l PySem.boot_len (pa_cons (pe_lcH (own := [("_law_kind", 2)]) (g := gName 2) (tt := tTest (tVar 2)) ⟨p, hot, List.mem_singleton.mpr rfl⟩ scSingle.nd (pv 1) (blkOk_by (own := [("_law_kind", 2)]) (N := NSi) (sc := defScope sSingle) (by decide +kernel)) (fun _ _ _ _ _ => pg_name (i := 2) scSingle.nd rfl (Or.inl rfl)) (fun _ _ _ _ _ => pts_one (pt_val (pv 2))) (fun _ _ _ _ _ => pe_int)) pa_nil)) pe_int (nomark _))))))))))))), ?_⟩
    obtain ⟨b0, b1, b2, b3, b4, b5, b6, b7, b8, b9, b10, b11, b12, b13, b14, b15, b16, b17, b18, h0, h1, h2, h3, h4, h5, h6, h7, h8, h9, h10, h11, h12, h13, h14, h15, h16, h17, h18, one⟩ := kg.k
    refine ⟨_, rfl, D, _, .ref r.c0, b0, dd, fs, rfl, fun u h => h, kg.x, hz, hf, hdd, h0, ⟨_, rfl, D, _, .ref r.c1, b1, dd, fs, rfl, fun u h => h, kg.x, hz, hf, hdd, h1, ⟨_, rfl, D, _, .ref r.c2, b2, dd, fs, rfl, fun u h => h, kg.x, hz, hf, hdd, h2, ⟨_, rfl, D, _, .ref r.c3, b3, dd, fs, rfl, fun u h => h, kg.x, hz, hf, hdd, h3, by show 4 ≤ sizeLine; decide, fun l0 n0 => ?_⟩⟩⟩⟩
    have k0 := Same.new (H := H) (o := .lst [.bl b0, .bl b1, .bl b2, .bl b3]) n0
    have a0 : upd H l0 (.lst [.bl b0, .bl b1, .bl b2, .bl b3]) l0 = some (.lst [.bl b0, .bl b1, .bl b2, .bl b3]) := upd_same
    generalize upd H l0 (.lst [.bl b0, .bl b1, .bl b2, .bl b3]) = H0 at k0 a0 ⊢
    have d0 := k0 _ _ hdd
    refine ⟨_, rfl, ?_⟩
    refine ⟨_, rfl, D, _, .ref r.c4, b4, dd, fs, rfl, fun u h => h, kg.x, hz, hf, d0, h4, ⟨_, rfl, D, _, .ref r.c5, b5, dd, fs, rfl, fun u h => h, kg.x, hz, hf, d0, h5, ⟨_, rfl, D, _, .ref r.c6, b6, dd, fs, rfl, fun u h => h, kg.x, hz, hf, d0, h6, by show 3 ≤ sizeLine; decide, fun m1 n1 => ?_⟩⟩⟩
    have a0' := Same.new (H := H0) (o := .lst [.bl b4, .bl b5, .bl b6]) n1 _ _ a0
    refine ⟨_, _, _, _, rfl, rfl, a0', upd_same, by show 4 + 3 ≤ sizeLine; decide, fun l1 x1 => ?_⟩
    have k1 := k0.trans ((Same.new (H := H0) (o := .lst [.bl b4, .bl b5, .bl b6]) n1).trans (Same.new (o := .lst ([.bl b0, .bl b1, .bl b2, .bl b3] ++ [.bl b4, .bl b5, .bl b6])) x1))
    have a1 : upd (upd H0 m1 (.lst [.bl b4, .bl b5, .bl b6])) l1 (.lst ([.bl b0, .bl b1, .bl b2, .bl b3] ++ [.bl b4, .bl b5, .bl b6])) l1 = some (.lst [.bl b0, .bl b1, .bl b2, .bl b3, .bl b4, .bl b5, .bl b6]) := upd_same
    generalize upd (upd H0 m1 (.lst [.bl b4, .bl b5, .bl b6])) l1 (.lst ([.bl b0, .bl b1, .bl b2, .bl b3] ++ [.bl b4, .bl b5, .bl b6])) = H1 at k1 a1 ⊢
    have d1 := k1 _ _ hdd
    refine ⟨_, rfl, ?_⟩
    refine ⟨_, rfl, D, _, .ref r.c7, b7, dd, fs, rfl, fun u h => h, kg.x, hz, hf, d1, h7, ⟨_, rfl, D, _, .ref r.c8, b8, dd, fs, rfl, fun u h => h, kg.x, hz, hf, d1, h8, ⟨_, rfl, D, _, .ref r.c9, b9, dd, fs, rfl, fun u h => h, kg.x, hz, hf, d1, h9, by show 3 ≤ sizeLine; decide, fun m2 n2 => ?_⟩⟩⟩
    have a1' := Same.new (H := H1) (o := .lst [.bl b7, .bl b8, .bl b9]) n2 _ _ a1
    refine ⟨_, _, _, _, rfl, rfl, a1', upd_same, by show 7 + 3 ≤ sizeLine; decide, fun l2 x2 => ?_⟩
    have k2 := k1.trans ((Same.new (H := H1) (o := .lst [.bl b7, .bl b8, .bl b9]) n2).trans (Same.new (o := .lst ([.bl b0, .bl b1, .bl b2, .bl b3, .bl b4, .bl b5, .bl b6] ++ [.bl b7, .bl b8, .bl b9])) x2))
    have a2 : upd (upd H1 m2 (.lst [.bl b7, .bl b8, .bl b9])) l2 (.lst ([.bl b0, .bl b1, .bl b2, .bl b3, .bl b4, .bl b5, .bl b6] ++ [.bl b7, .bl b8, .bl b9])) l2 = some (.lst [.bl b0, .bl b1, .bl b2, .bl b3, .bl b4, .bl b5, .bl b6, .bl b7, .bl b8, .bl b9]) := upd_same
    generalize upd (upd H1 m2 (.lst [.bl b7, .bl b8, .bl b9])) l2 (.lst ([.bl b0, .bl b1, .bl b2, .bl b3, .bl b4, .bl b5, .bl b6] ++ [.bl b7, .bl b8, .bl b9])) = H2 at k2 a2 ⊢
    have d2 := k2 _ _ hdd
    refine ⟨_, rfl, ?_⟩
    refine ⟨_, rfl, D, _, .ref r.c10, b10, dd, fs, rfl, fun u h => h, kg.x, hz, hf, d2, h10, ⟨_, rfl, D, _, .ref r.c11, b11, dd, fs, rfl, fun u h => h, kg.x, hz, hf, d2, h11, ⟨_, rfl, D, _, .ref r.c12, b12, dd, fs, rfl, fun u h => h, kg.x, hz, hf, d2, h12, by show 3 ≤ sizeLine; decide, fun m3 n3 => ?_⟩⟩⟩
    have a2' := Same.new (H := H2) (o := .lst [.bl b10, .bl b11, .bl b12]) n3 _ _ a2
    refine ⟨_, _, _, _, rfl, rfl, a2', upd_same, by show 10 + 3 ≤ sizeLine; decide, fun l3 x3 => ?_⟩
    have k3 := k2.trans ((Same.new (H := H2) (o := .lst [.bl b10, .bl b11, .bl b12]) n3).trans (Same.new (o := .lst ([.bl b0, .bl b1, .bl b2, .bl b3, .bl b4, .bl b5, .bl b6, .bl b7, .bl b8, .bl b9] ++ [.bl b10, .bl b11, .bl b12])) x3))
    have a3 : upd (upd H2 m3 (.lst [.bl b10, .bl b11, .bl b12])) l3 (.lst ([.bl b0, .bl b1, .bl b2, .bl b3, .bl b4, .bl b5, .bl b6, .bl b7, .bl b8, .bl b9] ++ [.bl b10, .bl b11, .bl b12])) l3 = some (.lst [.bl b0, .bl b1, .bl b2, .bl b3, .bl b4, .bl b5, .bl b6, .bl b7, .bl b8, .bl b9, .bl b10, .bl b11, .bl b12]) := upd_same
    generalize upd (upd H2 m3 (.lst [.bl b10, .bl b11, .bl b12])) l3 (.lst ([.bl b0, .bl b1, .bl b2, .bl b3, .bl b4, .bl b5, .bl b6, .bl b7, .bl b8, .bl b9] ++ [.bl b10, .bl b11, .bl b12])) = H3 at k3 a3 ⊢
    have d3 := k3 _ _ hdd
    refine ⟨_, rfl, ?_⟩
    refine ⟨_, rfl, D, _, .ref r.c13, b13, dd, fs, rfl, fun u h => h, kg.x, hz, hf, d3, h13, ⟨_, rfl, D, _, .ref r.c14, b14, dd, fs, rfl, fun u h => h, kg.x, hz, hf, d3, h14, ⟨_, rfl, D, _, .ref r.c15, b15, dd, fs, rfl, fun u h => h, kg.x, hz, hf, d3, h15, by show 3 ≤ sizeLine; decide, fun m4 n4 => ?_⟩⟩⟩
    have a3' := Same.new (H := H3) (o := .lst [.bl b13, .bl b14, .bl b15]) n4 _ _ a3
    refine ⟨_, _, _, _, rfl, rfl, a3', upd_same, by show 13 + 3 ≤ sizeLine; decide, fun l4 x4 => ?_⟩
    have k4 := k3.trans ((Same.new (H := H3) (o := .lst [.bl b13, .bl b14, .bl b15]) n4).trans (Same.new (o := .lst ([.bl b0, .bl b1, .bl b2, .bl b3, .bl b4, .bl b5, .bl b6, .bl b7, .bl b8, .bl b9, .bl b10, .bl b11, .bl b12] ++ [.bl b13, .bl b14, .bl b15])) x4))
    have a4 : upd (upd H3 m4 (.lst [.bl b13, .bl b14, .bl b15])) l4 (.lst ([.bl b0, .bl b1, .bl b2, .bl b3, .bl b4, .bl b5, .bl b6, .bl b7, .bl b8, .bl b9, .bl b10, .bl b11, .bl b12] ++ [.bl b13, .bl b14, .bl b15])) l4 = some (.lst [.bl b0, .bl b1, .bl b2, .bl b3, .bl b4, .bl b5, .bl b6, .bl b7, .bl b8, .bl b9, .bl b10, .bl b11, .bl b12, .bl b13, .bl b14, .bl b15]) := upd_same
    generalize upd (upd H3 m4 (.lst [.bl b13, .bl b14, .bl b15])) l4 (.lst ([.bl b0, .bl b1, .bl b2, .bl b3, .bl b4, .bl b5, .bl b6, .bl b7, .bl b8, .bl b9, .bl b10, .bl b11, .bl b12] ++ [.bl b13, .bl b14, .bl b15])) = H4 at k4 a4 ⊢
    have d4 := k4 _ _ hdd
    refine ⟨_, rfl, ?_⟩
    refine ⟨_, rfl, D, _, .ref r.c16, b16, dd, fs, rfl, fun u h => h, kg.x, hz, hf, d4, h16, ⟨_, rfl, D, _, .ref r.c17, b17, dd, fs, rfl, fun u h => h, kg.x, hz, hf, d4, h17, ⟨_, rfl, D, _, .ref r.c18, b18, dd, fs, rfl, fun u h => h, kg.x, hz, hf, d4, h18, by show 3 ≤ sizeLine; decide, fun m5 n5 => ?_⟩⟩⟩
    have a4' := Same.new (H := H4) (o := .lst [.bl b16, .bl b17, .bl b18]) n5 _ _ a4
    refine ⟨_, _, _, _, rfl, rfl, a4', upd_same, by show 16 + 3 ≤ sizeLine; decide, fun l5 x5 => ?_⟩
    have k5 := k4.trans ((Same.new (H := H4) (o := .lst [.bl b16, .bl b17, .bl b18]) n5).trans (Same.new (o := .lst ([.bl b0, .bl b1, .bl b2, .bl b3, .bl b4, .bl b5, .bl b6, .bl b7, .bl b8, .bl b9, .bl b10, .bl b11, .bl b12, .bl b13, .bl b14, .bl b15] ++ [.bl b16, .bl b17, .bl b18])) x5))
    have a5 : upd (upd H4 m5 (.lst [.bl b16, .bl b17, .bl b18])) l5 (.lst ([.bl b0, .bl b1, .bl b2, .bl b3, .bl b4, .bl b5, .bl b6, .bl b7, .bl b8, .bl b9, .bl b10, .bl b11, .bl b12, .bl b13, .bl b14, .bl b15] ++ [.bl b16, .bl b17, .bl b18])) l5 = some (.lst [.bl b0, .bl b1, .bl b2, .bl b3, .bl b4, .bl b5, .bl b6, .bl b7, .bl b8, .bl b9, .bl b10, .bl b11, .bl b12, .bl b13, .bl b14, .bl b15, .bl b16, .bl b17, .bl b18]) := upd_same
    generalize upd (upd H4 m5 (.lst [.bl b16, .bl b17, .bl b18])) l5 (.lst ([.bl b0, .bl b1, .bl b2, .bl b3, .bl b4, .bl b5, .bl b6, .bl b7, .bl b8, .bl b9, .bl b10, .bl b11, .bl b12, .bl b13, .bl b14, .bl b15] ++ [.bl b16, .bl b17, .bl b18])) = H5 at k5 a5 ⊢
    have d5 := k5 _ _ hdd
    refine ⟨_, rfl, D, _, .ref r.M, true, dd, fs, rfl, fun u h => h, kg.x, hz, hf, d5, kg.m, true, rfl, ?_⟩
    refine ⟨_, rfl, D, _, .type "ValueError", true, dd, fs, rfl, fun u h => h, kg.x, hz, hf, d5, kg.v, true, rfl, ?_⟩
    refine ⟨_, rfl, l5, rfl, ⟨_, SqL.of a5⟩, fun D1 nD => ?_⟩
    have e5 : ([.bl b0, .bl b1, .bl b2, .bl b3, .bl b4, .bl b5, .bl b6, .bl b7, .bl b8, .bl b9, .bl b10, .bl b11, .bl b12, .bl b13, .bl b14, .bl b15, .bl b16, .bl b17, .bl b18] : List V) = [b0, b1, b2, b3, b4, b5, b6, b7, b8, b9, b10, b11, b12, b13, b14, b15, b16, b17, b18].map V.bl := rfl
    rw [e5] at a5
    have el19 : ([b0, b1, b2, b3, b4, b5, b6, b7, b8, b9, b10, b11, b12, b13, b14, b15, b16, b17, b18] : List Bool).length = 19 := rfl
    generalize [b0, b1, b2, b3, b4, b5, b6, b7, b8, b9, b10, b11, b12, b13, b14, b15, b16, b17, b18] = bs at a5 one el19
    refine lc_list (K := K) (a := l5) (xs := bs.map V.bl) (fun i H' => Same H5 H' ∧ H' D1 = some (.lst (List.replicate ((bs.take i).filter id).length (V.int 1)))) ⟨Same.new nD, upd_same⟩ (fun i H' _ ⟨s, _⟩ => SqL.of (s _ _ a5)) ?_ ?_
    · rintro i y H6 hi ⟨s6, hd⟩
      obtain ⟨b, hb, rfl⟩ := bl_at hi
      refine ⟨rfl, ?_⟩
      refine ⟨_, rfl, b, rfl, ?_⟩
      cases b with
      | false =>
        refine iteF ⟨s6, ?_⟩
        rw [ones_more hb, if_neg Bool.false_ne_true, List.append_nil]
        exact hd
      | true =>
        refine iteT ⟨_, hd, ?_, Same.updN s6 nD, ?_⟩
        · rw [List.length_replicate]
          have h1 : ((bs.take i).filter id).length ≤ (bs.take i).length := List.length_filter_le _ _
          have h2 : (bs.take i).length ≤ bs.length := List.length_take_le' _ _
          exact Nat.lt_of_le_of_lt (by omega : _ ≤ 19) (by decide)
        · rw [upd_same, ones_more hb, if_pos rfl]
    · rintro H6 ⟨s6, hd⟩
      have el : (bs.map V.bl).length = bs.length := List.length_map ..
      rw [el, List.take_length, one] at hd
      exact ⟨D1, _, rfl, .inl (SqL.of hd), rfl, k H6 (k5.trans s6)⟩
end
end Toy
namespace Toy
open PySem PySem.Spec PyProof.Rows L2
/-- what the written part says of an error's class, for an except clause and for its attributes -/
structure ErX (P : Program) (K : PySem.W.Frag) (mg : Str → Option Value) (r : Errs) (x : Str) (flds : List Str) (C : Addr) : Prop where
  er : Er P K mg x flds C
  kit : KitsG K r C
  no : ∀ n ∈ flds, PySem.W.findIn K (.ref C) n = some none
theorem ErX.xf {P : Program} {K : PySem.W.Frag} {mg : Str → Option Value} {r : Errs} {x : Str} {flds : List Str} {C : Addr} (e : ErX P K mg r x flds C) : XfC K C := ⟨e.kit.x.hg, e.kit.x.hk, e.kit.x.hs, e.kit.x.hd⟩
/-- the suite asks which error it holds -/
def tSing (K : PySem.W.Frag) (r : Errs) (a : Addr) (cls : Value) (d : Option Addr) (i : Nat) : TE := fun σ H Q => σ[i]? = some (some (V.ref a)) ∧ ∃ (D dd : Addr) (fs : List (Str × V)), cls = .ref D ∧ d = some dd ∧ KitsG K r D ∧ H dd = some (.xd fs) ∧ ∀ H', Same H H' → Q (.bl true) H'
section
variable {X : Cx} {r : Errs} {a f : Addr} {oe : Obj} {cls : Value} {d : Option Addr} {pn : List (Addr × Obj)} {fd : FuncData} {q q2 q3 : Pos} {x : Str} {k : Nat}
theorem pe_single (i : Nat) (F : FnE X.prog X.w X.K X.mg X.base 1 f fd ["_law_e"] (spSingle X.K r)) (hr : Room 1 X.A) (hz : L2N.Zn cls d oe) (hf : ∃ vs, oe.data = .fields vs) (hm : X.mg "_law_single" = some (.ref f)) (hk : PySem.W.keepIn X.K (.ref f) = true) (hb : Binds X.K fd ["_law_e"] [])
    (hg : Gl (X.suite a ((a, oe) :: pn)) "_law_single" := by rfl) (hN : X.N[i]? = some x := by rfl) (hv : Vis X.env.scope x := by first | exact Or.inl rfl | exact Or.inr (Or.inl rfl)) (n1 : (x == ("__debug__" : Str)) = false := by decide) (n2 : (x == ("__classdict__" : Str)) = false := by decide)
    (he : starEach [.Name x q2] X.env = (false, eval (.Name x q2) X.env) :: starEach [] X.env := by rfl) (hpl : (backTo q3 (starEach [] X.env)).any (·.1) = false := by rfl) :
    PE (X.suite a ((a, oe) :: pn)) (.Call (.Name "_law_single" q) [.Name x q2] [] q3) (tSing X.K r a cls d i) := by
  have ⟨vs, ev⟩ := hf
  have hot : L2H.Hot1 (X.suite a ((a, oe) :: pn)).A (a, oe) := ⟨rfl, vs, ev, hz.2.2 vs ev⟩
  have room : L2H.RoomH 1 (X.suite a ((a, oe) :: pn)).A := ⟨hr.dp, hr.un⟩
  have R := pe_callE (X := X.suite a ((a, oe) :: pn)) (pos := q3) (q := q) F room hot List.mem_cons_self hg hm hk hb (pa_cons (e := .Name x q2) (es := []) (pe_var (X := X.suite a ((a, oe) :: pn)) (i := i) hN hv n1 n2) pa_nil) (by decide) he hpl
  refine ⟨fun pins s σ H Q I h => R.run pins s σ H Q I ?_⟩
  have ⟨h1, D, dd, fs, ec, ed, kg, hdd, h2⟩ := h
  refine ⟨_, h1, D, dd, fs, rfl, kg, ?_, hf, hdd, h2⟩
  rw [← ec, ← ed]
  exact hz.zc
end
/-- a new list of these -/
def NewL (H : Hp) (Q : VK) (xs : List V) : Prop := ∀ H' q, Same H H' → H q = none → H' q = some (.lst xs) → Q (.ref q) H'
/-- what an error helper of a law rests on -/
structure Hk (P : Program) (K : PySem.W.Frag) (mg : Str → Option Value) (r : Errs) : Prop where
  G : ErrG mg r
  single : ∃ f fd, Fun K "_law_single" "_law_single" sSingle f fd ∧ mg "_law_single" = some (.ref f) ∧ Binds K fd ["_law_e"] []
end Toy
namespace Toy
open PySem L2
abbrev sIsInt : Stmt := top 38
abbrev sIsWords : Stmt := top 39
def spIsInt : Sp := fun vs H Q _ => ∃ x : Int, vs = [.int x] ∧ Q (.bl true) H
def spIsWords : Sp := fun vs H Q _ => ∃ (l : Addr) (ws : List Int), vs = [.ref l] ∧ H l = some (.lst (vI ws)) ∧ Q (.bl true) H
section
variable {P : Program} {w : World} {K : PySem.W.Frag} {mg : Str → Option Value} {base : Heap}
theorem scIsInt : FnScope ["_law_value"] ["_law_value"] (defScope sIsInt) := ⟨rfl, rfl, rfl, by decide +kernel, rfl, by decide +kernel, by decide +kernel⟩
theorem ok_isInt {f : Addr} {fd : FuncData} (F : Fun K "_law_is_int" "_law_is_int" sIsInt f fd) (B : Bt mg) : FnOk P w K mg base CX0 1 f fd ["_law_value"] spIsInt := by
  refine F.ok scIsInt (fun vs H Q E h => ?_) (fun cdv A outer s H vs Q E hr h => ?_)
  · obtain ⟨x, rfl, _⟩ := h
    rfl
  · obtain ⟨x, rfl, k⟩ := h
    refine ⟨_, pss_one (ps_ret (pe_and (pe_callB call_isi (by rfl) B.isinstance (by decide +kernel) (pa_cons (pv 0) (pa_cons (pe_bltn (v := .ty "int") (u := .type "int") (by rfl) B.int (by decide +kernel) rfl) pa_nil)))
      (pe_one (pe_not (pe_callB call_isi (by rfl) B.isinstance (by decide +kernel) (pa_cons (pv 0) (pa_cons (pe_bltn (v := .ty "bool") (u := .type "bool") (by rfl) B.bool (by decide +kernel) rfl) pa_nil))))))), ?_⟩
    refine ⟨_, rfl, _, _, .type "int", _, true, rfl, .ty "int", .base (.int x), kit_ty (by decide +kernel), true, rfl, iteT ?_⟩
    refine ⟨_, rfl, _, _, .type "int", _, false, rfl, .ty "bool", .base (.int x), kit_ty (by decide +kernel), false, rfl, k⟩
theorem scIsWords : FnScope ["_law_value", "_law_one"] ["_law_value"] (defScope sIsWords) := ⟨rfl, rfl, rfl, by decide +kernel, rfl, by decide +kernel, by decide +kernel⟩
theorem ok_isWords {f g : Addr} {fd fdg : FuncData} (F : Fun K "_law_is_words" "_law_is_words" sIsWords f fd) (B : Bt mg) (G : Fun K "_law_is_int" "_law_is_int" sIsInt g fdg) (mgG : mg "_law_is_int" = some (.ref g)) (bG : Binds K fdg ["_law_value"] []) :
    FnOk P w K mg base CX0 2 f fd ["_law_value"] spIsWords := by
  refine F.ok scIsWords (fun vs H Q E h => ?_) (fun cdv A outer s H vs Q E hr h => ?_)
  · obtain ⟨l, ws, rfl, _⟩ := h
    rfl
  · obtain ⟨l, ws, rfl, hl, k⟩ := h
    refine ⟨_, pss_cons (ps_if (pt_not (pt_val (pe_callB call_isi (by rfl) B.isinstance (by decide +kernel) (pa_cons (pv 0) (pa_cons (pe_bltn (v := .ty "list") (u := .type "list") (by rfl) B.list (by decide +kernel) rfl) pa_nil))))) (pss_one ps_never) pss_nil)
      (pss_cons (ps_for PassesOwn.never rfl (pi_list (pv 0)) (pg_name (i := 1) scIsWords.nd rfl (Or.inl rfl)) (pss_one (ps_if (pt_not (pt_val (pe_call (ok_isInt G B) hr rfl mgG G.kp bG .nil pass0 (pa_cons (pv 1) pa_nil)))) (pss_one ps_never) pss_nil)))
      (pss_one (ps_ret pe_bl))), ?_⟩
    refine ⟨_, rfl, _, _, .type "list", _, true, rfl, .ty "list", .base (.lst hl), kit_ty (by decide +kernel), _, rfl, iteF ?_⟩
    refine ⟨_, rfl, l, rfl, ⟨_, SqL.of hl⟩, for_list (K := K) (a := l) (xs := vI ws) (fun i σ H' => H' = H ∧ ∃ v, σ = [some (.ref l), v]) ⟨rfl, none, rfl⟩ (fun i σ H' _ ⟨e, _⟩ => by rw [e]; exact SqL.of hl) ?_ ?_⟩
    · rintro i y σ H' hi ⟨rfl, v, rfl⟩
      obtain ⟨x, hx, rfl⟩ := vI_at hi
      exact ⟨_, rfl, x, rfl, _, rfl, iteF ⟨rfl, _, rfl⟩⟩
    · rintro σ H' ⟨rfl, v, rfl⟩
      exact k
end
end Toy
namespace Toy
open PySem PySem.Spec PyProof.Rows L2
/-! ### what the top has written of the errors, in short -/
section
variable {K : PySem.W.Frag} {C D : Addr} {b : Bool}
theorem kit_of (self : PySem.W.subIn K (.ref D) (.ref D) = some true) (h1 : PySem.W.isClsIn K C = true) (h2 : PySem.W.typeIn K (.ref C) = some (.type "type")) (h3 : PySem.W.subIn K (.ref D) (.ref C) = some b) : PySem.W.kitOne K (.ref D) (.ref C) = some b := by
  unfold PySem.W.kitOne
  by_cases e : D = C
  · subst e
    rw [self] at h3
    rw [if_pos (by simp), h3]
  · rw [if_neg (by simpa using e)]
    have z : ((PySem.W.clsIn K C).isSome && PySem.W.typeIn K (.ref C) == some (.type "type")) = true := by
      rw [h2]
      have h1' : (PySem.W.clsIn K C).isSome = true := h1
      rw [h1'] <;> rfl
    show (if ((PySem.W.clsIn K C).isSome && PySem.W.typeIn K (.ref C) == some (.type "type")) = true then PySem.W.subIn K (.ref D) (.ref C) else none) = some b
    rw [if_pos z]
    exact h3
theorem kitV_ty (h : PySem.W.subIn K (.ref D) (.type "ValueError") = some true) : PySem.W.kitOne K (.ref D) (.type "ValueError") = some true := by
  unfold PySem.W.kitOne
  rw [if_neg (by simp)]
  show (if PySem.W.kitMeta "ValueError" = true then PySem.W.subIn K (.ref D) (.type "ValueError") else none) = some true
  rw [if_pos (by decide +kernel)]
  exact h
theorem oex_mk {nm q : Str} {N : Addr} {bs bm : List Value} {sn : List Str} {sub : List Value} {ab : Bool} {col : Option Bool} {dd : Option Addr} {k0 k1 k2 k3 k5 : Option Value} (l : K.lookup C = some (excClassObj nm q C N bs bm true sn sub ab col dd k0 k1 k2 k3 k5 "ValueError.__new__")) (r : PySem.HandSPX.refsVE bm = true)
    (sa : PySem.W.findIn K (.ref C) "__setattr__" = some (some (.builtin "object.__setattr__"))) (ex : PySem.W.subIn K (.ref C) (.type "BaseException") = some true) (ty : PySem.W.typeIn K (.ref C) = some (.type "type")) (kC : PySem.W.keepIn K (.ref C) = true) : OexC K C :=
  ⟨⟨nm, q, N, bs, bm, sn, sub, ab, col, dd, k0, k1, k2, k3, k5, l, r⟩, sa, ex, ty, kC⟩
end
section
variable {P : Program} {K : PySem.W.Frag} {mg : Str → Option Value} {C f cda cc : Addr} {qual : Str} {st : Stmt} {oc ccl cl kV doc pm ct : Value} {od cdd cld an : Option Addr} {osl ccs csl : Array (Option Value)} {vs0 : Array Value} {file : Str} {tf : Tok}
theorem ert_mk (T : OexC K C) (self : PySem.W.mroIn K C (.ref C) = some true) (noS : mg "super" = none) (top : (P.main.scope.names.lookup ("super" : Str)).isSome = false) (sta : PySem.W.nsIn K cStatics "thirdparty.any" = some none)
    (al : PySem.W.ks_superIn K C C "__init__" = some (some (.builtin "ValueError.__init__"))) (vE : PySem.W.subIn K (.ref C) (.type "ValueError") = some true)
    (lk : K.lookup f = some ⟨oc, od, .func (PySem.W.ksFn "__init__" qual (defArgs st) (defBody st) (defScope st) .none kV doc pm an (.ref cda) ct cc), osl⟩) (cd : PySem.W.codeIn K (.ref cda) qual = true) (lc : K.lookup cda = some ⟨ccl, cdd, .fields vs0, ccs⟩)
    (hv : vs0[2]? = some (.str file tf)) (hf : ((P.main.file : Str) == file) = true) (cell : K.lookup cc = some ⟨cl, cld, .cell (some (.ref C)), csl⟩) (iC : PySem.W.findIn K (.ref C) "__init__" = some (some (.ref f))) (tI : PySem.W.typeIn K (.ref f) = some (.type "function")) :
    ErT P K mg C qual st f (PySem.W.ksFn "__init__" qual (defArgs st) (defBody st) (defScope st) .none kV doc pm an (.ref cda) ct cc) :=
  ⟨⟨T, self, noS, top, sta, al, vE⟩, ⟨oc, ccl, cl, od, cdd, cld, an, osl, ccs, csl, cda, cc, kV, doc, pm, ct, vs0, file, tf, rfl, lk, cd, lc, hv, hf, cell⟩, iC, tI⟩
end
end Toy
namespace Toy
open PySem PySem.Spec PyProof.Rows L2
def spSizeBad (c : Addr) : Sp := fun vs H _ E => ∃ n : Int, vs = [.int n] ∧ (decide (1 ≤ n) && decide (n ≤ 6)) = false ∧ Pr (.int n) ∧ Boom c [("size", .int n)] H E
section
variable {P : Program} {w : World} {K : PySem.W.Frag} {mg : Str → Option Value} {base : Heap}
theorem ok_checkSizeX {f g C c : Addr} {fd fdg : FuncData} (F : Fun K "check_size" "check_size" sCheckSize f fd) (T : CT K mg C) (G : Fun K "is_size" "is_size" sIsSize g fdg) (mgG : mg "is_size" = some (.ref g)) (bG : Binds K fdg ["size"] []) (R : Er P K mg "BadSize" ["size"] c) :
    FnOk P w K mg base (L2N.CX P w) 3 f fd ["size"] (fun vs H Q E => spCheckSize vs H Q E ∨ spSizeBad c vs H Q E) := by
  refine ((ok_checkSize F T G mgG bG).free.mono (by decide)).or (F.okN scCheckSize (fun vs H Q E h => ?_) (fun cdv A outer s H vs Q E hr h => ?_))
  · obtain ⟨n, rfl, _⟩ := h
    rfl
  · obtain ⟨n, rfl, hn, pr, boom⟩ := h
    have hr1 : Room 1 _ := hr.mono (by decide)
    refine ⟨_, pss_one (ps_if (pt_not (pt_val (pe_call (ok_isSize G T) hr1 rfl mgG G.kp bG .nil pass0 (pa_cons (pv 0) pa_nil)))) (pss_one (ps_raiseEr rfl R hr (L2N.takes_of rfl rfl rfl rfl) (pa_cons (pv 0) pa_nil))) pss_nil), ?_⟩
    refine ⟨_, rfl, n, rfl, _, rfl, ?_⟩
    rw [hn]
    refine iteT ⟨_, rfl, rfl, fun v hv => ?_, fun d hd => boom _ d (Same.new hd) hd upd_same⟩
    cases List.mem_singleton.mp hv
    exact pr
end
def tMakeL (i : Nat) (C : Addr) (sp : Sp) (E : XK) (t : TA) : TE := fun σ H Q => σ[i]? = some (some (.ref C)) ∧ t σ H fun vs H1 => ∀ x dx, H1 x = none → H1 dx = none → dx ≠ x → sp (.ref x :: (vs ++ [])) (upd (upd H1 dx (.own x)) x (.ins C dx [])) (fun v H2 => v = .non ∧ Q (.ref x) H2) E
section
variable {X : Cx} {CX : CXT} {k i : Nat} {f C : Addr} {fd : FuncData} {ps : List Str} {sp : Sp} {E : XK} {x : Str} {e : Expr} {es : List Expr} {t : TA} {p pos : Pos}
theorem pe_makeL (M : Mk X.K C f) (F : FnOk X.prog X.w X.K X.mg X.base CX k f fd ps sp) (room : Room (k + 1) X.A) (hN : X.N[i]? = some x) (hv : Vis X.env.scope x) (hb : Binds X.K fd ps []) (hx : Passes CX X E) (ha : PA X (e :: es) t)
    (db : (x == ("__debug__" : Str)) = false := by decide) (dc : (x == ("__classdict__" : Str)) = false := by decide)
    (he : starEach (e :: es) X.env = (false, eval e X.env) :: starEach es X.env := by rfl) (hpl : (backTo pos (starEach es X.env)).any (·.1) = false := by rfl) : PE X (.Call (.Name x p) (e :: es) [] pos) (tMakeL i C sp E t) := by
  constructor
  intro pins s σ H Q I ⟨at_, ht⟩
  refine wpAny_Call_Name_kw (thn ((pe_var (pos := p) hN hv db dc).run pins s σ H (fun v H1 => v = .ref C ∧ H1 = H) I ⟨.ref C, at_, rfl, rfl⟩) fun u s1 out => ?_)
  have ⟨v, H1, I1, r1, ev, eH⟩ := out
  subst ev eH
  cases r1
  refine PySem.W.callWith_K (h₀ := X.base) I.ok.mod.kin M.kp (thn (ha.run pos pins s1 σ _ _ I1 ht) fun us s2 out2 => ?_) he hpl
  have ⟨vs, H2, I2, r, q⟩ := out2
  exact ⟨I2.kIn, run_make M F room hb .nil hx I2 r q⟩
end
abbrev sIdent : Stmt := inClass sTable 2
def idT (n : Nat) : List (List Int) := (List.range n).map fun (i : Nat) => [(i : Int)]
theorem idT_can (n : Nat) : CanR n (idT n) := ⟨by unfold idT; simp, fun r hr => by
  unfold idT at hr
  obtain ⟨k, hk, rfl⟩ := List.mem_map.mp hr
  exact Can.one (List.mem_range.mp hk)⟩
theorem idT_at {n i : Nat} (h : i < n) : (idT n)[i]? = some [(i : Int)] := by
  unfold idT
  rw [List.getElem?_map, List.getElem?_range h]
  rfl
def spIdent (C : Addr) : Sp := fun vs H Q _ => ∃ n : Nat, vs = [.ref C, .int n] ∧ 1 ≤ n ∧ n ≤ 6 ∧ ∀ H' x, Same H H' → H x = none → Tab C H' x (idT n) → Q (.ref x) H'
def spMadeBad (C c : Addr) : Sp := fun vs H _ E => ∃ n : Int, vs = [.ref C, .int n] ∧ (decide (1 ≤ n) && decide (n ≤ 6)) = false ∧ Pr (.int n) ∧ Boom c [("size", .int n)] H E
abbrev sEmpty : Stmt := inClass sTable 4
abbrev sSameR : Stmt := top 41
def spSameR : Sp := fun vs H Q _ => ∃ n : Nat, vs = [.int n] ∧ n ≤ 6 ∧ ∀ H' l ls, Same H H' → H l = none → H' l = some (.lst ls) → RowsL H' ls (idT n) → Q (.ref l) H'
def spEmpty (C : Addr) : Sp := fun vs H Q _ => ∃ n : Nat, vs = [.ref C, .int n] ∧ 1 ≤ n ∧ n ≤ 6 ∧ ∀ H' x, Same H H' → H x = none → Tab C H' x (List.replicate n []) → Q (.ref x) H'
theorem rep_can (n : Nat) : CanR n (List.replicate n ([] : List Int)) := ⟨List.length_replicate .., fun r hr => by
  rw [(List.mem_replicate.mp hr).2]
  exact Can.nil⟩
section
variable {P : Program} {w : World} {K : PySem.W.Frag} {mg : Str → Option Value} {base : Heap}
theorem scIdent : FnScope ["cls", "size", "word"] ["cls", "size"] (defScope sIdent) := ⟨rfl, rfl, rfl, by decide +kernel, rfl, by decide +kernel, by decide +kernel⟩
theorem ok_ident {f n C : Addr} {fd fdn : FuncData} (F : Fun K "identity" "Table.identity" sIdent f fd) (S : Gs K mg C) (N : Fun K "__init__" "Table.__init__" sInit n fdn) (M : Mk K C n) (bN : Binds K fdn ["self", "rows"] []) : FnOk P w K mg base CX0 5 f fd ["cls", "size"] (spIdent C) := by
  obtain ⟨fI, fdI, FI, mI, bI⟩ := S.isS
  obtain ⟨fC, fdC, FC, mC, bC⟩ := S.chS
  have B := S.B
  refine F.ok scIdent (fun vs H Q E h => ?_) (fun cdv A outer s H vs Q E hr h => ?_)
  · obtain ⟨n, rfl, _⟩ := h
    rfl
  · obtain ⟨n, rfl, n1, n6, k⟩ := h
    have hr2 : Room 2 _ := hr.mono (by decide)
    refine ⟨_, pss_cons (ps_expr (pe_call (ok_checkSize FC S.T FI mI bI) hr2 rfl mC FC.kp bC .nil pass0 (pa_cons (pv 1) pa_nil)))
      (pss_one (ps_ret (pe_makeL (i := 0) M (ok_init N S) hr rfl (.inl rfl) bN pass0 (pa_cons
        (pe_lc (own := [("word", 2)]) (g := gName 2) (tt := tYes) (te := tLst (tCons (tVar 2) tNil)) rfl scIdent.nd (pi_range1 (by rfl) B.range (pa_cons (pv 1) pa_nil)) (blkOk_by (own := [("word", 2)]) (N := ["cls", "size", "word"]) (sc := defScope sIdent) (by decide +kernel))
          (fun _ _ _ _ _ => pg_name (i := 2) scIdent.nd rfl (Or.inl rfl)) (fun _ _ _ _ _ => pts_nil) (fun _ _ _ _ _ => pe_lst (pa_cons (pv 2) pa_nil))) pa_nil)))), ?_⟩
    refine ⟨_, rfl, (n : Int), rfl, by omega, by omega, rfl, _, rfl, n, rfl, by omega, by omega, fun D hD => ?_⟩
    refine lc_range (lo := 0) (n := n) (fun i H' => Same H H' ∧ ∃ ks, H' D = some (.lst ks) ∧ RowsL H' ks ((idT n).take i) ∧ ∀ v ∈ ks, v ≠ .ref D) ⟨Same.new hD, [], upd_same, .nil, fun _ h => by cases h⟩ ?_ ?_
    · rintro i H1 hi ⟨s1, ks, hk, hKs, nD⟩
      have e0 : (0 : Int) + (i : Int) = (i : Int) := Int.zero_add _
      rw [e0]
      refine ⟨rfl, yesT (iteT ⟨_, rfl, by show 1 ≤ sizeLine; decide, fun u hu => ?_⟩)⟩
      have a := Same.new (H := H1) (o := .lst [.int (i : Int)]) hu
      have nu : u ≠ D := (ne_of_none hk hu).symm
      obtain ⟨z1, z2⟩ := RowsL.snoc (r := [(i : Int)]) (o := .lst (ks ++ [.ref u])) (RowsL.same a hKs) nD upd_same nu
      refine ⟨ks, a _ _ hk, ?_, Same.updN (s1.trans a) hD, ks ++ [.ref u], upd_same, ?_, z2⟩
      · rw [Paired.length hKs]
        exact Nat.lt_of_le_of_lt (Nat.le_trans (List.length_take_le _ _) (by omega : i ≤ 6)) (by decide)
      · rw [take_more (idT_at hi)]
        exact z1
    · rintro H1 ⟨s1, ks, hk, hKs, _⟩
      rw [List.take_of_length_le (by rw [(idT_can n).1]; exact Nat.le_refl _)] at hKs
      exact init_of hk hKs (idT_can n) n1 n6 fun H6 x s6 x0 Tx => k H6 x (s1.trans s6) (s1.free x0) Tx
theorem ok_identX {f n C c : Addr} {fd fdn : FuncData} (F : Fun K "identity" "Table.identity" sIdent f fd) (S : Gs K mg C) (N : Fun K "__init__" "Table.__init__" sInit n fdn) (M : Mk K C n) (bN : Binds K fdn ["self", "rows"] []) (RS : Er P K mg "BadSize" ["size"] c) :
    FnOk P w K mg base (L2N.CX P w) 5 f fd ["cls", "size"] (fun vs H Q E => spIdent C vs H Q E ∨ spMadeBad C c vs H Q E) := by
  obtain ⟨fI, fdI, FI, mI, bI⟩ := S.isS
  obtain ⟨fC, fdC, FC, mC, bC⟩ := S.chS
  refine ((ok_ident F S N M bN).free).or (F.okN (k := 4) scIdent (fun vs H Q E h => ?_) (fun cdv A outer s H vs Q E hr h => ?_))
  · obtain ⟨n, rfl, _⟩ := h
    rfl
  · obtain ⟨n, rfl, bad⟩ := h
    refine ⟨_, pss_cons (ps_expr (pe_call (ok_checkSizeX FC S.T FI mI bI RS) (hr.mono (by decide)) rfl mC FC.kp bC .nil (passUp (L2N.takes_of rfl rfl rfl rfl)) (pa_cons (pv 1) pa_nil))) pss_never, ?_⟩
    exact ⟨_, rfl, .inr ⟨n, rfl, bad⟩⟩
theorem scSameR : FnScope ["_law_n", "_law_word"] ["_law_n"] (defScope sSameR) := ⟨rfl, rfl, rfl, by decide +kernel, rfl, by decide +kernel, by decide +kernel⟩
theorem ok_sameR {f : Addr} {fd : FuncData} (F : Fun K "_law_same_rows" "_law_same_rows" sSameR f fd) (B : Bt mg) : FnOk P w K mg base CX0 1 f fd ["_law_n"] spSameR := by
  refine F.ok scSameR (fun vs H Q E h => ?_) (fun cdv A outer s H vs Q E hr h => ?_)
  · obtain ⟨n, rfl, _⟩ := h
    rfl
  · obtain ⟨n, rfl, n6, k⟩ := h
    refine ⟨_, pss_one (ps_ret (pe_lc (own := [("_law_word", 1)]) (g := gName 1) (tt := tYes) (te := tLst (tCons (tVar 1) tNil)) rfl scSameR.nd (pi_range1 (by rfl) B.range (pa_cons (pv 0) pa_nil)) (blkOk_by (own := [("_law_word", 1)]) (N := ["_law_n", "_law_word"]) (sc := defScope sSameR) (by decide +kernel))
          (fun _ _ _ _ _ => pg_name (i := 1) scSameR.nd rfl (Or.inl rfl)) (fun _ _ _ _ _ => pts_nil) (fun _ _ _ _ _ => pe_lst (pa_cons (pv 1) pa_nil)))), ?_⟩
    refine ⟨_, rfl, n, rfl, by omega, by omega, fun D hD => ?_⟩
    refine lc_range (lo := 0) (n := n) (fun i H' => Same H H' ∧ ∃ ks, H' D = some (.lst ks) ∧ RowsL H' ks ((idT n).take i) ∧ ∀ v ∈ ks, v ≠ .ref D) ⟨Same.new hD, [], upd_same, .nil, fun _ h => by cases h⟩ ?_ ?_
    · rintro i H1 hi ⟨s1, ks, hk, hKs, nD⟩
      have e0 : (0 : Int) + (i : Int) = (i : Int) := Int.zero_add _
      rw [e0]
      refine ⟨rfl, yesT (iteT ⟨_, rfl, by show 1 ≤ sizeLine; decide, fun u hu => ?_⟩)⟩
      have a := Same.new (H := H1) (o := .lst [.int (i : Int)]) hu
      have nu : u ≠ D := (ne_of_none hk hu).symm
      obtain ⟨z1, z2⟩ := RowsL.snoc (r := [(i : Int)]) (o := .lst (ks ++ [.ref u])) (RowsL.same a hKs) nD upd_same nu
      refine ⟨ks, a _ _ hk, ?_, Same.updN (s1.trans a) hD, ks ++ [.ref u], upd_same, ?_, z2⟩
      · rw [Paired.length hKs]
        exact Nat.lt_of_le_of_lt (Nat.le_trans (List.length_take_le _ _) (by omega : i ≤ 6)) (by decide)
      · rw [take_more (idT_at hi)]
        exact z1
    · rintro H1 ⟨s1, ks, hk, hKs, _⟩
      rw [List.take_of_length_le (by rw [(idT_can n).1]; exact Nat.le_refl _)] at hKs
      exact k H1 D ks s1 hD hk hKs
theorem scEmpty : FnScope ["cls", "size", "_"] ["cls", "size"] (defScope sEmpty) := ⟨rfl, rfl, rfl, by decide +kernel, rfl, by decide +kernel, by decide +kernel⟩
theorem ok_empty {f n C : Addr} {fd fdn : FuncData} (F : Fun K "empty" "Table.empty" sEmpty f fd) (S : Gs K mg C) (N : Fun K "__init__" "Table.__init__" sInit n fdn) (M : Mk K C n) (bN : Binds K fdn ["self", "rows"] []) : FnOk P w K mg base CX0 5 f fd ["cls", "size"] (spEmpty C) := by
  obtain ⟨fI, fdI, FI, mI, bI⟩ := S.isS
  obtain ⟨fC, fdC, FC, mC, bC⟩ := S.chS
  have B := S.B
  refine F.ok scEmpty (fun vs H Q E h => ?_) (fun cdv A outer s H vs Q E hr h => ?_)
  · obtain ⟨n, rfl, _⟩ := h
    rfl
  · obtain ⟨n, rfl, n1, n6, k⟩ := h
    have hr2 : Room 2 _ := hr.mono (by decide)
    refine ⟨_, pss_cons (ps_expr (pe_call (ok_checkSize FC S.T FI mI bI) hr2 rfl mC FC.kp bC .nil pass0 (pa_cons (pv 1) pa_nil)))
      (pss_one (ps_ret (pe_makeL (i := 0) M (ok_init N S) hr rfl (.inl rfl) bN pass0 (pa_cons
        (pe_lc (own := [("_", 2)]) (g := gName 2) (tt := tYes) (te := tLst tNil) rfl scEmpty.nd (pi_range1 (by rfl) B.range (pa_cons (pv 1) pa_nil)) (blkOk_by (own := [("_", 2)]) (N := ["cls", "size", "_"]) (sc := defScope sEmpty) (by decide +kernel))
          (fun _ _ _ _ _ => pg_name (i := 2) scEmpty.nd rfl (Or.inl rfl)) (fun _ _ _ _ _ => pts_nil) (fun _ _ _ _ _ => pe_lst pa_nil)) pa_nil)))), ?_⟩
    refine ⟨_, rfl, (n : Int), rfl, by omega, by omega, rfl, _, rfl, n, rfl, by omega, by omega, fun D hD => ?_⟩
    refine lc_range (lo := 0) (n := n) (fun i H' => Same H H' ∧ ∃ ks, H' D = some (.lst ks) ∧ RowsL H' ks (List.replicate i []) ∧ ∀ v ∈ ks, v ≠ .ref D) ⟨Same.new hD, [], upd_same, .nil, fun _ h => by cases h⟩ ?_ ?_
    · rintro i H1 hi ⟨s1, ks, hk, hKs, nD⟩
      refine ⟨rfl, yesT (iteT ⟨Nat.zero_le _, fun u hu => ?_⟩)⟩
      have a := Same.new (H := H1) (o := .lst []) hu
      have nu : u ≠ D := (ne_of_none hk hu).symm
      obtain ⟨z1, z2⟩ := RowsL.snoc (r := []) (o := .lst (ks ++ [.ref u])) (RowsL.same a hKs) nD upd_same nu
      refine ⟨ks, a _ _ hk, ?_, Same.updN (s1.trans a) hD, ks ++ [.ref u], upd_same, ?_, z2⟩
      · rw [Paired.length hKs, List.length_replicate]
        exact Nat.lt_of_le_of_lt (by omega : i ≤ 6) (by decide)
      · rw [List.replicate_succ']
        exact z1
    · rintro H1 ⟨s1, ks, hk, hKs, _⟩
      exact init_of hk hKs (rep_can n) n1 n6 fun H6 x s6 x0 Tx => k H6 x (s1.trans s6) (s1.free x0) Tx
end
end Toy
namespace Toy
open PySem PySem.Spec PyProof.Rows L2
abbrev sCheckWords : Stmt := top 29
def spCheckWords : Sp := fun vs H Q _ => ∃ (l : Addr) (ws : List Int) (n : Nat), vs = [.ref l, .int n] ∧ H l = some (.lst (vI ws)) ∧ (∀ x ∈ ws, isW n x = true) ∧ Q .non H
def spWordBad (c : Addr) : Sp := fun vs H _ E => ∃ (x : Int) (n : Nat), vs = [.int x, .int n] ∧ isW n x = false ∧ Pr (.int x) ∧ Boom c [("word", .int x)] H E
def spWordsBad (c : Addr) : Sp := fun vs H _ E => ∃ (l : Addr) (ws : List Int) (n i : Nat) (x : Int), vs = [.ref l, .int n] ∧ H l = some (.lst (vI ws)) ∧ ws[i]? = some x ∧ isW n x = false ∧ (∀ j y, j < i → ws[j]? = some y → isW n y = true) ∧ Pr (.int x) ∧ Boom c [("word", .int x)] H E
section
variable {P : Program} {w : World} {K : PySem.W.Frag} {mg : Str → Option Value} {base : Heap}
theorem scCheckWords : FnScope ["words", "size", "word"] ["words", "size"] (defScope sCheckWords) := ⟨rfl, rfl, rfl, by decide +kernel, rfl, by decide +kernel, by decide +kernel⟩
theorem ok_checkWords {f : Addr} {fd : FuncData} {C : Addr} (F : Fun K "check_words" "check_words" sCheckWords f fd) (S : Gs K mg C) : FnOk P w K mg base CX0 3 f fd ["words", "size"] spCheckWords := by
  obtain ⟨fW, fdW, FW, mW, bW⟩ := S.isW_
  obtain ⟨fC, fdC, FC, mC, bC⟩ := S.chW
  refine F.ok scCheckWords (fun vs H Q E h => ?_) (fun cdv A outer s H vs Q E hr h => ?_)
  · obtain ⟨l, ws, n, rfl, _⟩ := h
    rfl
  · obtain ⟨l, ws, n, rfl, hl, hw, k⟩ := h
    refine ⟨_, pss_one (ps_for PassesOwn.never rfl (pi_list (pv 0)) (pg_name (i := 2) scCheckWords.nd rfl (Or.inl rfl))
      (pss_one (ps_expr (pe_call (ok_checkWord FC FW mW bW) hr rfl mC FC.kp bC .nil pass0 (pa_cons (pv 2) (pa_cons (pv 1) pa_nil)))))), ?_⟩
    refine ⟨_, rfl, l, rfl, ⟨_, SqL.of hl⟩, for_list (K := K) (a := l) (xs := vI ws) (fun i σ H' => H' = H ∧ ∃ v, σ = [some (.ref l), some (.int n), v]) ⟨rfl, none, rfl⟩ (fun i σ H' _ ⟨e, _⟩ => by rw [e]; exact SqL.of hl) ?_ ?_⟩
    · rintro i y σ H' hi ⟨rfl, v, rfl⟩
      obtain ⟨x, hx, rfl⟩ := vI_at hi
      exact ⟨_, rfl, _, rfl, x, n, rfl, hw x (List.mem_of_getElem? hx), rfl, _, rfl⟩
    · rintro σ H' ⟨rfl, v, rfl⟩
      exact k
theorem ok_checkWordX {f g c : Addr} {fd fdg : FuncData} (F : Fun K "check_word" "check_word" sCheckWord f fd) (G : Fun K "is_word" "is_word" sIsWord g fdg) (mgG : mg "is_word" = some (.ref g)) (bG : Binds K fdg ["word", "size"] []) (RU : Er P K mg "UnknownWord" ["word"] c) :
    FnOk P w K mg base (L2N.CX P w) 3 f fd ["word", "size"] (fun vs H Q E => spCheckWord vs H Q E ∨ spWordBad c vs H Q E) := by
  refine ((ok_checkWord F G mgG bG).free.mono (by decide)).or (F.okN scCheckWord (fun vs H Q E h => ?_) (fun cdv A outer s H vs Q E hr h => ?_))
  · obtain ⟨x, n, rfl, _⟩ := h
    rfl
  · obtain ⟨x, n, rfl, hn, pr, boom⟩ := h
    have hr1 : Room 1 _ := hr.mono (by decide)
    refine ⟨_, pss_one (ps_if (pt_not (pt_val (pe_call (ok_isWord G) hr1 rfl mgG G.kp bG .nil pass0 (pa_cons (pv 0) (pa_cons (pv 1) pa_nil))))) (pss_one (ps_raiseEr rfl RU hr (L2N.takes_of rfl rfl rfl rfl) (pa_cons (pv 0) pa_nil))) pss_nil), ?_⟩
    refine ⟨_, rfl, _, rfl, x, n, rfl, _, rfl, ?_⟩
    rw [hn]
    refine iteT ⟨_, rfl, rfl, fun v hv => ?_, fun d hd => boom _ d (Same.new hd) hd upd_same⟩
    cases List.mem_singleton.mp hv
    exact pr
theorem ok_checkWordsX {f C c : Addr} {fd : FuncData} (F : Fun K "check_words" "check_words" sCheckWords f fd) (S : Gs K mg C) (RU : Er P K mg "UnknownWord" ["word"] c) : FnOk P w K mg base (L2N.CX P w) 4 f fd ["words", "size"] (fun vs H Q E => spCheckWords vs H Q E ∨ spWordsBad c vs H Q E) := by
  refine ((ok_checkWords F S).free.mono (by decide)).or ?_
  obtain ⟨fW, fdW, FW, mW, bW⟩ := S.isW_
  obtain ⟨fC, fdC, FC, mC, bC⟩ := S.chW
  refine F.okN scCheckWords (fun vs H Q E h => ?_) (fun cdv A outer s H vs Q E hr h => ?_)
  · obtain ⟨l, ws, n, i, x, rfl, _⟩ := h
    rfl
  · obtain ⟨l, ws, n, i0, x0, rfl, hl, hx0, bad, ahead, pr, boom⟩ := h
    refine ⟨_, pss_one (ps_for (L2.passes_of rfl) rfl (pi_list (pv 0)) (pg_name (i := 2) scCheckWords.nd rfl (Or.inl rfl))
      (pss_one (ps_expr (pe_call (ok_checkWordX FC FW mW bW RU) hr rfl mC FC.kp bC .nil (passUp (L2N.takes_of rfl rfl rfl rfl)) (pa_cons (pv 2) (pa_cons (pv 1) pa_nil)))))), ?_⟩
    have lt0 := (List.getElem?_eq_some_iff.mp hx0).1
    refine ⟨_, rfl, l, rfl, ⟨_, SqL.of hl⟩, for_list (K := K) (a := l) (xs := vI ws) (fun i σ H' => i ≤ i0 ∧ H' = H ∧ ∃ v, σ = [some (.ref l), some (.int n), v]) ⟨Nat.zero_le _, rfl, none, rfl⟩ (fun i σ H' _ ⟨_, e, _⟩ => by rw [e]; exact SqL.of hl) ?_ ?_⟩
    · rintro i y σ H' hi ⟨le, rfl, v, rfl⟩
      obtain ⟨x, hx, rfl⟩ := vI_at hi
      refine ⟨_, rfl, _, rfl, ?_⟩
      by_cases e : i = i0
      · subst e
        cases hx.symm.trans hx0
        exact .inr ⟨_, n, rfl, bad, pr, boom⟩
      · exact .inl ⟨x, n, rfl, ahead i x (by omega) hx, by omega, rfl, _, rfl⟩
    · rintro σ H' ⟨le, _⟩
      rw [vI_len] at le
      omega
end
end Toy
namespace ItY
open PySem PySem.Spec PyProof.Rows L2 ItX
/-- an iterator over the tuple at t, ahead of its first item -/
abbrev itT (t : Addr) : Obj := { cls := .type "tuple_iterator", data := .fields #[.ref t, .int 0 0] }
/-- such an iterator stands at it, which is not below n -/
def ItT (t it : Addr) : HO := .ext fun h => h.get? it = some (itT t)
theorem itT_ok {P : Program} {w : World} {H : Hp} {h : Heap} {t it : Addr} (e : h.get? it = some (itT t)) : ObjOk P w H h it (ItT t it) := ⟨e, ⟨_, e⟩, fun _ _ q k => k _ q⟩
section
variable {prog : Program} {w : World} {A : Around} {E : Value → Shared → Prop} {s : Shared} {t : Addr} {its : Array Value}
theorem call_iter_t {Q : Value → Shared → Prop} (ht : s.heap.IsTuple t its) (q : Q (.ref s.heap.objs.size) { s with heap := s.heap.push (itT t) }) : wpAny (model prog w) A (call (.builtin "iter") [.ref t]) Q E s := by
  refine Calls.call_function_entry (by decide +kernel) (by decide +kernel) PySem.W.kdk_entry_iter (PySem.W.kdk_args_iter _) ?_
  unfold Builtin.«iter»
  have one : ∀ A' : Around, wpAny (model prog w) A' (pyIter (.ref t)) (fun v s' => v = .ref s.heap.objs.size ∧ s' = { s with heap := s.heap.push (itT t) }) E s := fun A' => wpAny_pyIter_tuple ht ⟨rfl, rfl⟩
  refine wpAny_bind (m := someArgs "iter" 1 2 _) (wpAny_of_eq (a := [Value.ref t]) (by first | rfl | kernel_rfl!) ?_)
  change wpAny _ _ (pyIter (.ref t) >>= _) _ _ s
  refine wpAny_bind (wpAny_mono (one _) (fun v s' z => ?_) fun _ _ z => z)
  obtain ⟨rfl, rfl⟩ := z
  exact wpAny_pure ⟨_, rfl, q⟩
end
/-- iter(t), t a tuple: the iterator is new, and younger than the frame -/
def rIterT (K : PySem.W.Frag) (n : Nat) : List V → Hp → VK → Prop := fun xs H Q => ∃ (t : Addr) (zs : List V), xs = [.ref t] ∧ SqT K H t zs ∧ ∀ it, H it = none → n ≤ it → Q (.ref it) (upd H it (ItT t it))
theorem call_iterT {X : Cx} : CallR X (.builtin "iter") (rIterT X.K X.s_0.heap.objs.size) := by
  intro pins s σ H xs us Q I r h
  obtain ⟨t, zs, rfl, hq, q⟩ := h
  obtain rfl := Vals.ref1 r
  obtain ⟨its, rv, pt, hz⟩ := I.tuple hq
  exact call_iter_t (its := its.toArray) (show s.heap.IsTuple t its.toArray from pt) ⟨.ref s.heap.objs.size, _, I.laid (t' := s.toks) (fun b u e => Heap.get?_push_of_some _ e) (Nat.le_refl _) (itT_ok (Heap.get?_push_size _ rfl)), rfl, q _ (I.hok.fresh (Nat.le_refl _)) I.sz⟩
/-- one run of a def, its state s in sight -/
theorem run_at {CX : CXT} {P : Program} {w : World} {K : PySem.W.Frag} {mg : Str → Option Value} {base : Heap} {k : Nat} {f : Addr} {nm qual : Str} {pars : Arguments} {bd : List Stmt} {sc : Scope} {dV kV doc pm cdv ct oc : Value} {an od : Option Addr} {osl : Array (Option Value)} {N ps : List Str}
    (lk : K.lookup f = some ⟨oc, od, .func (PySem.W.fnOf nm qual pars bd sc dV kV doc pm an cdv ct), osl⟩) (hcd : PySem.W.codeIn K cdv qual = true) (S : FnScope N ps sc)
    {A : Around} {outer : List Env} {s : Shared} {H : Hp} {us : List Value} {vs : List V} {Q : VK} {E : XK} (hr : Room (k + 1) A) (e0 : Env0 P w K mg base A outer s H) (hb : BindsTo s (PySem.W.fnOf nm qual pars bd sc dV kV doc pm an cdv ct) ⟨us, []⟩ (ps.zip us)) (r : Vals vs us) (hl : vs.length = ps.length)
    (h : ∃ t, PSs (cxOf CX P w K mg base N qual sc f cdv A outer s H E) bd t ∧ t { nx := fun _ H' => Q .non H', rt := Q } (start N vs) H) : codeAny (model P w) A (.call (.ref f) ⟨us, []⟩) (CR CX outer P w H s Q E) s := by
  have old : ∀ b o, base.get? b = some o → s.heap.get? b = some o := fun b o e => (e0.bs b o e).1
  obtain ⟨t, ht, q⟩ := h
  have places : ∀ y ∈ ps.zip us, sc.names.lookup y.1 = some .local ∨ (sc.names.lookup y.1 = some .cell ∧ ((cellsFrom (s.heap.objs.size + 1) sc.names []).lookup y.1).isSome = true) := by
    rintro ⟨n, v⟩ hy
    exact (S.par n (List.of_mem_zip hy).1).imp id fun c => ⟨c, PySem.W.cellsFrom_some _ _ _ (.inl c)⟩
  refine codeAny_call_function hr.depth ((e0.mod.kin.keeps old) _ _ lk) rfl S.co S.gen rfl (PySem.W.codeRec_of (e0.mod.kin.keeps old) hcd) (hb _ _ _ _ (wpAny_newFunctionEnv_cells S.kind places fun env he s1 x => ?_))
  subst he
  refine ⟨(e0.mod.nolimit.keeps old).keeps x.toInCall.keep, codeAny_func (wpAny_mono (ht.run [] s1 (start N vs) H _ (inv_start S hr.hd e0 hl r x) q) (fun fl s' z => ?_) fun _ _ z => z)⟩
  match fl, z with
  | .ret u, ⟨v, σ', H', J, rv, y⟩ => exact ⟨v, H', J.os, J.bare, J.base, J.hok, rv, y⟩
  | .next, ⟨σ', H', J, y⟩ => exact ⟨.non, H', J.os, J.bare, J.base, J.hok, rfl, y⟩
  | .brk, ⟨_, _, _, y⟩ => exact y.elim
  | .cont, ⟨_, _, _, y⟩ => exact y.elim
end ItY
namespace Toy
open PySem PySem.Spec PyProof.Rows L2 ItX ItY
abbrev sIter : Stmt := inClass sTable 20
section
variable {P : Program} {w : World} {K : PySem.W.Frag} {mg : Str → Option Value} {base : Heap}
theorem scIter : FnScope ["self"] ["self"] (defScope sIter) := ⟨rfl, rfl, rfl, by decide +kernel, rfl, by decide +kernel, by decide +kernel⟩
/-- what __iter__ gives, s the state of the call -/
def QIt (s : Shared) (H : Hp) (tp : Addr) : VK := fun v H' => ∃ it, v = .ref it ∧ H it = none ∧ s.heap.objs.size ≤ it ∧ H' = upd H it (ItT tp it)
theorem iter_at {f C p dx tr tp : Addr} {fd : FuncData} {R : List (List Int)} {qs : List V} (F : Fun K "__iter__" "Table.__iter__" sIter f fd) (T : CT K mg C) (mIt : mg "iter" = none)
    {A : Around} {outer : List Env} {s : Shared} {H : Hp} (hr : Room 1 A) (e0 : Env0 P w K mg base A outer s H) (hb : BindsTo s fd ⟨[.ref p], []⟩ [("self", .ref p)]) (h1 : H p = some (.ins C dx (tf R.length tr tp))) (h5 : H tp = some (.tup qs)) :
    codeAny (model P w) A (.call (.ref f) ⟨[.ref p], []⟩) (CR CX0 outer P w H s (QIt s H tp) E0) s := by
  obtain ⟨oc, od, kV, doc, pm, an, cdv, ct, osl, rfl, lk, hcd⟩ := F.ex
  refine run_at (ps := ["self"]) (us := [.ref p]) (vs := [.ref p]) lk hcd scIter hr e0 hb (.cons rfl .nil) rfl ⟨_, pss_one (ps_ret (pe_callB call_iterT (by rfl) mIt (by decide +kernel) (pa_cons (pe_fld (pv 0) rfl) pa_nil))), ?_⟩
  exact ⟨_, rfl, p, C, dx, _, _, rfl, h1, T.cl, T.nP, tf_pairs _ _ _, tp, qs, rfl, SqT.of h5, fun it n0 le => ⟨it, rfl, n0, le, rfl⟩⟩
end
/-- a walk over the pairs of a table -/
def iTab (K : PySem.W.Frag) (C : Addr) (te : TE) : TI := fun σ H R => te σ H fun x H1 => ∃ p dx tr tp n qs, x = .ref p ∧ H1 p = some (.ins C dx (tf n tr tp)) ∧ H1 tp = some (.tup qs) ∧ R (Itt K tp) H1
theorem pi_tab {X : Cx} {tg e : Expr} {te : TE} {f C : Addr} {fd : FuncData} (F : Fun X.K "__iter__" "Table.__iter__" sIter f fd) (T : CT X.K X.mg C) (mIt : X.mg "iter" = none) (hb : Binds X.K fd ["self"] []) (hs : PySem.W.findIn X.K (.ref C) "__iter__" = some (some (.ref f))) (hf : PySem.W.isFn X.K (.ref f) = true)
    (hr : Room 1 X.A) (he : PE X e te) : PI X tg e (iTab X.K C te) := by
  refine ⟨fun pins s σ H R I h => thn (he.run pins s σ H _ I h) fun v s1 ⟨x, H1, I1, r1, p, dx, tr, tp, n, qs, ex, h1, h5, q⟩ => ?_⟩
  subst ex
  cases r1
  obtain ⟨mA, O, _⟩ := ins_get I1.hok h1
  obtain ⟨od, J, _⟩ := O.look
  obtain ⟨m, hF⟩ := I1.fr
  refine PySem.W.owit_iter hF I1.ok.mod.kin J hs hf ?_
  have bnd : BindsTo s1 fd ⟨[.ref p], []⟩ [("self", .ref p)] := hb s1 [.ref p] I1.kIn rfl
  refine wpAny_call (codeAny_mono (iter_at (R := List.replicate n []) F T mIt hr I1.env0 bnd (by rw [List.length_replicate]; exact h1) h5) fun r s' hq => ?_)
  cases r with
  | error er => exact False.elim hq
  | ok fl =>
    cases fl with
    | ret u =>
      obtain ⟨v2, H2, I2, r2, it, rfl, n0, le, rfl⟩ := I1.after hq
      cases r2
      have g : s'.heap.get? it = some (itT tp) := (I2.hok it _ upd_same).1
      unfold PySem.W.OwitIt
      refine wpAny_specialOf (name := Str.ofString "__next__") (T := "tuple_iterator") ⟨_, g, rfl⟩ PySem.F.slot_tuple_iterator_next.lookup ?_
      have hd := inv_drop I2 (a := it) (φ := fun h => h.get? it = some (itT tp)) upd_same
      have hp := inv_fp I2 (a := it) upd_same (Nat.le_trans I1.sz le)
      rw [dropH_upd n0] at hd hp
      have fp : ∀ b ∈ [it], FpOk X pins H1 b := fun b hb' => by
        rw [show b = it by simpa using hb']
        exact hp
      exact ⟨it, [it], _, _, H1, rfl, hd, turn_tuple tp it, ⟨_, g, rfl, rfl⟩, fp, q⟩
    | next => exact False.elim hq
    | brk => exact False.elim hq
    | cont => exact False.elim hq
end Toy
namespace StX
open PySem PySem.Spec PyProof.Rows L2 ClX
/-- C.m is a staticmethod: its record at p, its def at f -/
structure SMet (K : PySem.W.Frag) (C : Addr) (mc : Value) (m : Str) (p f : Addr) : Prop where
  at_ : PySem.W.findCls K (.ref C) mc m = some (.get (.builtin "staticmethod.__get__") (.ref p) .none (.ref C))
  rc : ∃ rest, PySem.W.recIn K p "staticmethod" = some (.ref f :: rest)
/-- e.m(..), e the class at C, m a staticmethod -/
def tSMeth (C : Addr) (sp : Sp) (E : XK) (ta : TE) (t : TA) : TE := fun σ H Q => ta σ H fun x H1 => x = .ref C ∧ t σ H1 fun vs H2 => sp vs H2 Q E
theorem pe_smeth {X : Cx} {CX : CXT} {k : Nat} {C p f : Addr} {mc : Value} {sp : Sp} {E : XK} {o e : Expr} {es : List Expr} {m : Str} {pos apos : Pos} {ta : TE} {t : TA} {pl : Sem Bool} (he : PE X o ta) (r : CRead X.K C mc) (c : SMet X.K C mc m p f) (hk : PySem.W.keepIn X.K (.ref f) = true)
    (F : FnR X.prog X.w X.K X.mg X.base CX k f sp) (hr : Room k X.A) (hx : Passes CX X E) (ha : PA X (e :: es) t)
    (hst : starEach (e :: es) X.env = (false, eval e X.env) :: starEach es X.env := by rfl) (hpl : (backTo pos (starEach es X.env)).any (·.1) = false := by rfl) (ht : eval (.Call (.Attribute o m apos) (e :: es) [] pos) X.env = (do let ov ← eval o X.env; standAt apos.atName; let (f, first) ← holding [ov] (getMethod ov m pl); callWith pos f first (backTo pos (starEach (e :: es) X.env)) (backToKw pos (keywordEach [] X.env))) := by rfl) :
    PE X (.Call (.Attribute o m apos) (e :: es) [] pos) (tSMeth C sp E ta t) := by
  obtain ⟨rest, hp⟩ := c.rc
  refine ⟨fun pins s σ H Q I h => PySem.W.methodCall_KW (pl := pl) (thn (he.run pins s σ H _ I h) fun u s1 ⟨x, H1, I1, rx, ex, q⟩ => ?_) ht⟩
  subst ex
  cases rx
  refine PySem.W.method_cls I1.kIn r.ga (PySem.W.cls_bind I1.kIn r.rd c.at_ (wpAny_call (PySem.W.sm_get (s := { s1 with toks := s1.toks + 1 }) I1.kIn hp (PySem.W.handed_on rfl ?_))))
  have I2 : Inv X pins σ H1 { s1 with toks := s1.toks + 1 } := I1.tok _
  refine PySem.W.callWith_K (h₀ := X.base) I2.ok.mod.kin hk (thn (ha.run pos pins _ σ H1 _ I2 q) fun us s2 ⟨vs, H2, I3, rv, z⟩ => ⟨I3.kIn, ?_⟩) hst hpl
  exact wpAny_call (run_fnR F hr hx I3 rv z)
end StX
namespace Toy
open PySem L2
abbrev sSame : Stmt := top 40
def spSame (C : Addr) : Sp := fun vs H Q _ => ∃ (p l : Addr) (ls : List V) (R : List (List Int)), vs = [.ref p, .ref l] ∧ Tab C H p R ∧ H l = some (.lst ls) ∧ RowsL H ls R ∧ ∀ H', Same H H' → Q (.bl true) H'
section
variable {P : Program} {w : World} {K : PySem.W.Frag} {mg : Str → Option Value} {base : Heap}
structure Vt (K : PySem.W.Frag) (mg : Str → Option Value) (C : Addr) : Prop where
  G : Gs K mg C
  I : C8.InsC K C
  isInt : ∃ f fd, Fun K "_law_is_int" "_law_is_int" sIsInt f fd ∧ mg "_law_is_int" = some (.ref f) ∧ Binds K fd ["_law_value"] []
  isWords : ∃ f fd, Fun K "_law_is_words" "_law_is_words" sIsWords f fd ∧ mg "_law_is_words" = some (.ref f) ∧ Binds K fd ["_law_value"] []
  rows : ∃ f fd, Fun K "rows" "Table.rows" sRows f fd ∧ Meth K C "rows" f ∧ Binds K fd ["self"] []
theorem scSame : FnScope ["_law_table", "_law_rows_here", "_law_told", "_law_k"] ["_law_table", "_law_rows_here"] (defScope sSame) := ⟨rfl, rfl, rfl, by decide +kernel, rfl, by decide +kernel, by decide +kernel⟩
theorem ok_same {f C : Addr} {fd : FuncData} (F : Fun K "_law_same" "_law_same" sSame f fd) (S : Vt K mg C) : FnOk P w K mg base CX0 3 f fd ["_law_table", "_law_rows_here"] (spSame C) := by
  obtain ⟨fI, fdI, FI, mI, bI⟩ := S.isInt
  obtain ⟨fW, fdW, FW, mW, bW⟩ := S.isWords
  obtain ⟨fR, fdR, FR, mR, bR⟩ := S.rows
  have B := S.G.B
  refine F.ok scSame (fun vs H Q E h => ?_) (fun cdv A outer s H vs Q E hr h => ?_)
  · obtain ⟨p, l, ls, R, rfl, _⟩ := h
    rfl
  · obtain ⟨p, l, ls, R, rfl, hT, hl, hR, k⟩ := h
    obtain ⟨dx, tr, tp, ts, qs, h1, h2, h3, h4, h5, h6, h7, h8, h9⟩ := id hT
    have hr1 : Room 1 _ := hr.mono (by decide)
    refine ⟨_, pss_cons (ps_if (PW.pt (pw_or (pt_not (pt_val (pe_callB (C8.call_isC S.I) (by rfl) B.isinstance (by decide +kernel) (pa_cons (pv 0) (pa_cons (pe_glob rfl S.G.T.mgC (v := .ref C) rfl) pa_nil)))))
        (pw_or (pt_not (pt_val (pe_call (ok_isInt FI B) hr1 rfl mI FI.kp bI .nil pass0 (pa_cons (pe_fld (pv 0) rfl) pa_nil))))
          (pw_or1 (pt_cmpR op_ne (pe_fld (pv 0) rfl) (pe_callB call_len_seq (by rfl) B.len PySem.boot_len (pa_cons (pv 1) pa_nil)) (nomark _)))))) (pss_one ps_never) pss_nil)
      (pss_cons (ps_set (i := 2) scSame.nd rfl (Or.inl rfl) (pe_meth0 (pv 0) S.G.T.cl mR (ok_rows FR S.G) hr1 bR .nil pass0))
      (pss_cons (ps_if (PW.pt (pw_or (pt_not (pt_val (pe_callB call_isi (by rfl) B.isinstance (by decide +kernel) (pa_cons (pv 2) (pa_cons (pe_bltn (v := .ty "list") (u := .type "list") (by rfl) B.list (by decide +kernel) rfl) pa_nil)))))
          (pw_or1 (pt_cmpR op_ne (pe_callB call_len_seq (by rfl) B.len PySem.boot_len (pa_cons (pv 2) pa_nil)) (pe_callB call_len_seq (by rfl) B.len PySem.boot_len (pa_cons (pv 1) pa_nil)) (nomark _))))) (pss_one ps_never) pss_nil)
      (pss_cons (ps_for PassesOwn.never rfl (pi_range1 (by rfl) B.range (pa_cons (pe_callB call_len_seq (by rfl) B.len PySem.boot_len (pa_cons (pv 1) pa_nil)) pa_nil)) (pg_name (i := 3) scSame.nd rfl (Or.inl rfl))
        (pss_one (ps_if (PW.pt (pw_or (pt_not (pt_val (pe_call (ok_isWords FW B FI mI bI) hr rfl mW FW.kp bW .nil pass0 (pa_cons (pe_ix ix_list (pv 2) (pv 3) (fun _ _ => rfl)) pa_nil))))
          (pw_or1 (pt_cmpR (op_neD hr.units) (pe_ix ix_list (pv 2) (pv 3) (fun _ _ => rfl)) (pe_ix ix_list (pv 1) (pv 3) (fun _ _ => rfl)) (nomark _))))) (pss_one ps_never) pss_nil)))
      (pss_one (ps_ret pe_bl))))), ?_⟩
    have eL : ls.length = R.length := Paired.length hR
    refine ⟨_, rfl, p, dx, _, rfl, h1, _, rfl, iteF ?_⟩
    refine ⟨_, rfl, p, C, dx, _, _, rfl, h1, S.G.T.cl, S.G.T.nS, tf_size _ _ _, _, rfl, _, rfl, iteF ?_⟩
    refine ⟨_, rfl, p, C, dx, _, _, rfl, h1, S.G.T.cl, S.G.T.nS, tf_size _ _ _, _, rfl, l, _, rfl, .inl (SqL.of hl), rfl, _, rfl, iteNS (by rw [eL]) ?_⟩
    refine ⟨_, rfl, p, dx, _, rfl, h1, tf_rows' _ _ _, p, R, rfl, hT, fun H1 l2 ls2 s1 l20 hl2 hR2 => ?_⟩
    have hl1 := s1 _ _ hl
    have eL2 : ls2.length = R.length := Paired.length hR2
    refine ⟨_, rfl, _, _, .type "list", _, true, rfl, .ty "list", .base (.lst hl2), kit_ty (by decide +kernel), _, rfl, iteF ?_⟩
    refine ⟨_, rfl, l2, _, rfl, .inl (SqL.of hl2), _, rfl, l, _, rfl, .inl (SqL.of hl1), rfl, _, rfl, iteNS (by rw [eL, eL2]) ?_⟩
    refine ⟨_, rfl, l, _, rfl, .inl (SqL.of hl1), (ls.length : Int), rfl, by omega, by omega, ?_⟩
    refine for_range (lo := 0) (n := ls.length) (fun i σ H' => H' = H1 ∧ ∃ v, σ = [some (.ref p), some (.ref l), some (.ref l2), v]) ⟨rfl, none, rfl⟩ ?_ ?_
    · rintro i σ H' hi ⟨rfl, v, rfl⟩
      obtain ⟨r, hr0⟩ : ∃ r, R[i]? = some r := ⟨_, List.getElem?_eq_getElem (by omega)⟩
      obtain ⟨u1, g1, t1, rfl, q1, _⟩ := L2.Paired.at2 hR2 hr0
      obtain ⟨u2, g2, t2, rfl, q2⟩ := L2.Paired.at2 (RowsL.same s1 hR) hr0
      refine ⟨_, rfl, _, rfl, l2, _, _, _, rfl, rfl, SqL.of hl2, at_of (j := i) (by omega) g1, t1, r, rfl, q1, _, rfl, iteF ?_⟩
      refine ⟨_, rfl, _, rfl, l2, _, _, _, rfl, rfl, SqL.of hl2, at_of (j := i) (by omega) g1, _, rfl, _, rfl, l, _, _, _, rfl, rfl, SqL.of hl1, at_of (j := i) (by omega) g2, _, _, dpI (SqL.of q1), dpI (SqL.of q2), shI r, shI r, _, rfl, ?_⟩
      rw [eqI, decide_eq_true rfl]
      exact iteF ⟨rfl, _, rfl⟩
    · rintro σ H' ⟨rfl, v, rfl⟩
      exact k _ s1
end
end Toy
namespace Toy
open PySem PySem.Spec PyProof.Rows L2
theorem setAtP {α β : Type} {F : α → β → Prop} {x : α} {y : β} (f : F x y) : ∀ {xs : List α} {ys : List β} (i : Nat), Paired F xs ys → Paired F (xs.set i x) (ys.set i y)
  | _, _, _, .nil => .nil
  | _, _, 0, .cons _ t => .cons f t
  | _, _, i + 1, .cons r t => .cons r (setAtP f i t)
theorem RowsL.stay {H : Hp} {l : Addr} {xs : List V} {ls : List V} {R} (h : RowsL H ls R) (av : ∀ v ∈ ls, v ≠ .ref l) : RowsL (upd H l (.lst xs)) ls R :=
  PairedIn.map h fun v r hv ⟨t, e, q⟩ => ⟨t, e, by rw [upd_ne fun z => av v hv (by rw [e, z])]; exact q⟩
theorem RowsL.out {H : Hp} {l : Addr} {xs ls : List V} {R} (h : RowsL H ls R) (hl : H l = some (.lst xs)) (far : ∃ v ∈ xs, ∃ a, v = V.ref a) : ∀ v ∈ ls, v ≠ .ref l := fun v hv z => by
  obtain ⟨r, _, t, e, q⟩ := Paired.mem h hv
  rw [e] at z
  cases z
  rw [hl] at q
  obtain ⟨u, hu, a, ea⟩ := far
  injection q with q
  injection q with q
  rw [q] at hu
  obtain ⟨x, _, ex⟩ := List.mem_map.mp hu
  rw [ea] at ex
  cases ex
theorem RowsL.avoidS {H : Hp} {D : Addr} {ks : List V} {R} (h : RowsL H ks R) (hk : H D = some (.lst ks)) : ∀ v ∈ ks, v ≠ .ref D := fun v hv z => RowsL.out h hk ⟨v, hv, D, z⟩ v hv z
theorem RowsL.put {H : Hp} {D p : Addr} {ks : List V} {R : List (List Int)} {g : List Int} (h : RowsL H ks R) (hk : H D = some (.lst ks)) (hp : H p = some (.lst (vI g))) (ne : p ≠ D) (i : Nat) :
    RowsL (upd H D (.lst (ks.set i (.ref p)))) (ks.set i (.ref p)) (R.set i g) := setAtP ⟨p, rfl, by rw [upd_ne ne]; exact hp⟩ i (RowsL.stay h (RowsL.avoidS h hk))
end Toy
namespace Toy
open PySem PySem.Spec PyProof.Rows L2
abbrev sFull : Stmt := inClass sTable 3
abbrev sOf : Stmt := inClass sTable 5
theorem Boom.later {c : Addr} {fs : List (Str × V)} {H H1 : Hp} {E : XK} (b : Boom c fs H E) (s : Same H H1) : Boom c fs H1 E := fun H' d s' d0 hd => b H' d (s.trans s') (s.free d0) hd
theorem isW_at {n : Nat} {y : Int} (h : isW n y = true) : ∃ j : Nat, y = (j : Int) ∧ j < n := by
  unfold isW at h
  rw [Bool.and_eq_true, decide_eq_true_iff, decide_eq_true_iff] at h
  exact ⟨y.toNat, by omega, by omega⟩
def fullT (n : Nat) : List (List Int) := List.replicate n (filt n fun _ => true)
theorem fullT_can (n : Nat) : CanR n (fullT n) := ⟨List.length_replicate .., fun r hr => by
  rw [List.eq_of_mem_replicate hr]
  exact filt_can _⟩
theorem rg_up {n : Nat} : rgV 0 (n : Int) = vI (filt n fun _ => true) := by
  rw [rgV_vI]
  unfold filt
  rw [List.filter_eq_self.mpr (fun _ _ => rfl)]
def spFull (C : Addr) : Sp := fun vs H Q _ => ∃ n : Nat, vs = [.ref C, .int n] ∧ 1 ≤ n ∧ n ≤ 6 ∧ ∀ H' x, Same H H' → H x = none → Tab C H' x (fullT n) → Q (.ref x) H'
/-! ### Table.of -/
def flatP (P : List (Int × Int)) : List Int := P.flatMap fun p => [p.1, p.2]
/-- the first integer that is no word -/
def fb (n : Nat) (P : List (Int × Int)) : Option Int := (flatP P).find? fun x => !isW n x
def outs (P : List (Int × Int)) (t : Nat) : List Int := (P.filter fun p => decide (p.1 = (t : Int))).map (·.2)
def ofG (n : Nat) (P : List (Int × Int)) : List (List Int) := (List.range n).map (outs P)
theorem outs_len (P : List (Int × Int)) (t : Nat) : (outs P t).length ≤ P.length := by
  unfold outs
  rw [List.length_map]
  exact List.length_filter_le _ _
theorem ofG_at {n t : Nat} {P : List (Int × Int)} (h : t < n) : (ofG n P)[t]? = some (outs P t) := by
  unfold ofG
  rw [List.getElem?_map, List.getElem?_range h]
  rfl
theorem ofG_len {n : Nat} {P : List (Int × Int)} : (ofG n P).length = n := by unfold ofG; rw [List.length_map, List.length_range]
theorem ofG_nil (n : Nat) : ofG n [] = List.replicate n [] := by
  unfold ofG outs
  refine List.ext_getElem (by simp) fun i h1 h2 => ?_
  simp
theorem ofG_more {n t : Nat} {P : List (Int × Int)} {o : Int} (h : t < n) : ofG n (P ++ [((t : Int), o)]) = (ofG n P).set t (outs P t ++ [o]) := by
  refine List.ext_getElem? fun j => ?_
  by_cases hj : j < n
  · rw [ofG_at hj]
    by_cases e : j = t
    · subst e
      rw [List.getElem?_set_self (by rw [ofG_len]; exact hj)]
      unfold outs
      rw [List.filter_append, List.map_append]
      simp
    · rw [List.getElem?_set_ne (fun z => e z.symm), ofG_at hj]
      unfold outs
      rw [List.filter_append, List.map_append]
      have : ¬ (t : Int) = (j : Int) := fun z => e (by omega)
      simp [this]
  · rw [List.getElem?_eq_none (by rw [ofG_len]; omega), List.getElem?_eq_none (by rw [List.length_set, ofG_len]; omega)]
theorem RowsL.putAt {a : Addr} {g : List Int} {H : Hp} : ∀ {ks : List V} {G : List (List Int)} {t : Nat}, RowsL H ks G → ks.Nodup → ks[t]? = some (.ref a) → RowsL (upd H a (.lst (vI g))) ks (G.set t g)
  | _, _, _, .nil, _, h => by simp at h
  | _, _, 0, .cons (a := v) ⟨t', e, q⟩ r, nd, h => by
    have ev : v = .ref a := by simpa using h
    have nm := (List.nodup_cons.mp nd).1
    refine .cons ⟨a, ev, upd_same⟩ (PairedIn.map r fun x y hx ⟨z, ez, qz⟩ => ⟨z, ez, ?_⟩)
    rw [upd_ne fun w => nm (by rw [ev, ← w, ← ez]; exact hx)]
    exact qz
  | _, _, t + 1, .cons (a := v) ⟨t', e, q⟩ r, nd, h => by
    have nm := (List.nodup_cons.mp nd).1
    have h' : _ := h
    rw [List.getElem?_cons_succ] at h'
    refine .cons ⟨t', e, ?_⟩ (RowsL.putAt r (List.nodup_cons.mp nd).2 h')
    rw [upd_ne fun w => nm (by rw [e, w]; exact List.mem_of_getElem? h')]
    exact q
theorem init_ofG {K : PySem.W.Frag} {C D : Addr} {H5 : Hp} {ks : List V} {G : List (List Int)} {n : Nat} {E : XK} {Z : Addr → Hp → Prop} (hk : H5 D = some (.lst ks)) (hKs : RowsL H5 ks G) (cl : G.length = n) (n1 : 1 ≤ n) (n6 : n ≤ 6) (gd : ∀ g ∈ G, g.length < sizeLine ∧ g.all (isW n) = true)
    (hz : ∀ H6 x, Same H5 H6 → H5 x = none → Tab C H6 x (G.map fun g => asc g n) → Z x H6) : ∀ x dx, H5 x = none → H5 dx = none → dx ≠ x → spInit K C (.ref x :: ([.ref D] ++ [])) (upd (upd H5 dx (.own x)) x (.ins C dx [])) (fun v H2 => v = .non ∧ Z x H2) E := by
  intro x dx hx hdx nd
  have s6 : Same H5 (upd (upd H5 dx (.own x)) x (.ins C dx [])) := Same.upd (Same.new hdx) (by rw [upd_ne nd.symm]; exact hx)
  refine ⟨x, dx, D, ks, G, rfl, upd_same, by rw [upd_ne nd]; exact upd_same, s6 _ _ hk, RowsL.same s6 hKs, by omega, by omega, by rw [cl]; exact gd, fun H6 k6 hT => ⟨rfl, ?_⟩⟩
  rw [cl] at hT
  exact hz H6 x (fun q o e => k6 q o (ne_of_none e hx) (s6 _ _ e)) hx hT
/-- the pairs stand in a list, or in a table -/
def Src (C : Addr) (H : Hp) (a : Addr) (P : List (Int × Int)) : Prop := (∃ ls, H a = some (.lst ls) ∧ PairsT H ls P) ∨ (∃ dx tr tp m qs, H a = some (.ins C dx (tf m tr tp)) ∧ H tp = some (.tup qs) ∧ PairsT H qs P)
theorem Src.same {C a : Addr} {H H' : Hp} {P : List (Int × Int)} (s : Same H H') (h : Src C H a P) : Src C H' a P := by
  rcases h with ⟨ls, h1, h2⟩ | ⟨dx, tr, tp, m, qs, h1, h2, h3⟩
  · exact .inl ⟨ls, s _ _ h1, PairsT.same s h2⟩
  · exact .inr ⟨dx, tr, tp, m, qs, s _ _ h1, s _ _ h2, PairsT.same s h3⟩
def spOf (C cU : Addr) : Sp := fun vs H Q E => ∃ (n : Nat) (a : Addr) (P : List (Int × Int)), vs = [.int n, .ref a] ∧ 1 ≤ n ∧ n ≤ 6 ∧ Src C H a P ∧ P.length ≤ 100 ∧
  ((fb n P = none ∧ ∀ H' x, Same H H' → H x = none → Tab C H' x ((ofG n P).map fun g => asc g n) → Q (.ref x) H') ∨ (∃ x, fb n P = some x ∧ Pr (.int x) ∧ Boom cU [("word", .int x)] H E))
def spOfBad (cS : Addr) : Sp := fun vs H _ E => ∃ (n : Int) (a : Addr), vs = [.int n, .ref a] ∧ (decide (1 ≤ n) && decide (n ≤ 6)) = false ∧ Pr (.int n) ∧ Boom cS [("size", .int n)] H E
section
variable {P : Program} {w : World} {K : PySem.W.Frag} {mg : Str → Option Value} {base : Heap}
abbrev NFl : List Str := ["cls", "size", "_"]
theorem scFull : FnScope NFl ["cls", "size"] (defScope sFull) := ⟨rfl, rfl, rfl, by decide +kernel, rfl, by decide +kernel, by decide +kernel⟩
theorem ok_full {f n C : Addr} {fd fdn : FuncData} (F : Fun K "full" "Table.full" sFull f fd) (S : Gs K mg C) (N : Fun K "__init__" "Table.__init__" sInit n fdn) (M : Mk K C n) (bN : Binds K fdn ["self", "rows"] []) : FnOk P w K mg base CX0 5 f fd ["cls", "size"] (spFull C) := by
  obtain ⟨fI, fdI, FI, mI, bI⟩ := S.isS
  obtain ⟨fC, fdC, FC, mC, bC⟩ := S.chS
  have B := S.B
  refine F.ok scFull (fun vs H Q E h => ?_) (fun cdv A outer s H vs Q E hr h => ?_)
  · obtain ⟨n, rfl, _⟩ := h
    rfl
  · obtain ⟨n, rfl, n1, n6, k⟩ := h
    have hr2 : Room 2 _ := hr.mono (by decide)
    refine ⟨_, pss_cons (ps_expr (pe_call (ok_checkSize FC S.T FI mI bI) hr2 rfl mC FC.kp bC .nil pass0 (pa_cons (pv 1) pa_nil)))
      (pss_one (ps_ret (pe_makeL (i := 0) M (ok_init N S) hr rfl (.inl rfl) bN pass0 (pa_cons
        (pe_lc (own := [("_", 2)]) (g := gName 2) (tt := tYes) (te := (tLstRg (tRg1 (tVar 1)))) rfl scFull.nd (pi_range1 (by rfl) B.range (pa_cons (pv 1) pa_nil)) (blkOk_by (own := [("_", 2)]) (N := NFl) (sc := defScope sFull) (by decide +kernel))
          (fun _ _ _ _ _ => pg_name (i := 2) scFull.nd rfl (Or.inl rfl)) (fun _ _ _ _ _ => pts_nil) (fun _ _ _ _ _ => (pe_listRg rfl (by rfl) B.list (prg_1 (by rfl) B.range (pv 1))))) pa_nil)))), ?_⟩
    refine ⟨_, rfl, (n : Int), rfl, by omega, by omega, rfl, _, rfl, n, rfl, by omega, by omega, fun D hD => ?_⟩
    refine lc_range (lo := 0) (n := n) (fun i H' => Same H H' ∧ ∃ ks, H' D = some (.lst ks) ∧ RowsL H' ks (List.replicate i (filt n fun _ => true)) ∧ ∀ v ∈ ks, v ≠ .ref D) ⟨Same.new hD, [], upd_same, .nil, fun _ h => by cases h⟩ ?_ ?_
    · rintro i H1 hi ⟨s1, ks, hk, hKs, nD⟩
      refine ⟨rfl, yesT (iteT ⟨_, rfl, (n : Int), rfl, RgOk.of_le (by decide) (by omega) (by decide) (by omega), fun u hu => ?_⟩)⟩
      rw [rg_up]
      have a := Same.new (H := H1) (o := .lst (vI (filt n fun _ => true))) hu
      have nu : u ≠ D := (ne_of_none hk hu).symm
      obtain ⟨z1, z2⟩ := RowsL.snoc (r := filt n fun _ => true) (o := .lst (ks ++ [.ref u])) (RowsL.same a hKs) nD upd_same nu
      refine ⟨ks, a _ _ hk, ?_, Same.updN (s1.trans a) hD, ks ++ [.ref u], upd_same, ?_, z2⟩
      · rw [Paired.length hKs, List.length_replicate]
        exact Nat.lt_of_le_of_lt (by omega : i ≤ 6) (by decide)
      · rw [List.replicate_succ']
        exact z1
    · rintro H1 ⟨s1, ks, hk, hKs, _⟩
      exact init_of hk hKs (fullT_can n) n1 n6 fun H6 x s6 x0 Tx => k H6 x (s1.trans s6) (s1.free x0) Tx
theorem ok_fullX {f n C c : Addr} {fd fdn : FuncData} (F : Fun K "full" "Table.full" sFull f fd) (S : Gs K mg C) (N : Fun K "__init__" "Table.__init__" sInit n fdn) (M : Mk K C n) (bN : Binds K fdn ["self", "rows"] []) (RS : Er P K mg "BadSize" ["size"] c) :
    FnOk P w K mg base (L2N.CX P w) 5 f fd ["cls", "size"] (fun vs H Q E => spFull C vs H Q E ∨ spMadeBad C c vs H Q E) := by
  obtain ⟨fI, fdI, FI, mI, bI⟩ := S.isS
  obtain ⟨fC, fdC, FC, mC, bC⟩ := S.chS
  refine ((ok_full F S N M bN).free).or (F.okN (k := 4) scFull (fun vs H Q E h => ?_) (fun cdv A outer s H vs Q E hr h => ?_))
  · obtain ⟨n, rfl, _⟩ := h
    rfl
  · obtain ⟨n, rfl, bad⟩ := h
    refine ⟨_, pss_cons (ps_expr (pe_call (ok_checkSizeX FC S.T FI mI bI RS) (hr.mono (by decide)) rfl mC FC.kp bC .nil (passUp (L2N.takes_of rfl rfl rfl rfl)) (pa_cons (pv 1) pa_nil))) pss_never, ?_⟩
    exact ⟨_, rfl, .inr ⟨n, rfl, bad⟩⟩
theorem ok_emptyX {f n C c : Addr} {fd fdn : FuncData} (F : Fun K "empty" "Table.empty" sEmpty f fd) (S : Gs K mg C) (N : Fun K "__init__" "Table.__init__" sInit n fdn) (M : Mk K C n) (bN : Binds K fdn ["self", "rows"] []) (RS : Er P K mg "BadSize" ["size"] c) :
    FnOk P w K mg base (L2N.CX P w) 5 f fd ["cls", "size"] (fun vs H Q E => spEmpty C vs H Q E ∨ spMadeBad C c vs H Q E) := by
  obtain ⟨fI, fdI, FI, mI, bI⟩ := S.isS
  obtain ⟨fC, fdC, FC, mC, bC⟩ := S.chS
  refine ((ok_empty F S N M bN).free).or (F.okN (k := 4) scEmpty (fun vs H Q E h => ?_) (fun cdv A outer s H vs Q E hr h => ?_))
  · obtain ⟨n, rfl, _⟩ := h
    rfl
  · obtain ⟨n, rfl, bad⟩ := h
    refine ⟨_, pss_cons (ps_expr (pe_call (ok_checkSizeX FC S.T FI mI bI RS) (hr.mono (by decide)) rfl mC FC.kp bC .nil (passUp (L2N.takes_of rfl rfl rfl rfl)) (pa_cons (pv 1) pa_nil))) pss_never, ?_⟩
    exact ⟨_, rfl, .inr ⟨n, rfl, bad⟩⟩
abbrev NOf : List Str := ["size", "pairs", "rows", "told", "out", "_"]
theorem scOf : FnScope NOf ["size", "pairs"] (defScope sOf) := ⟨rfl, rfl, rfl, by decide +kernel, rfl, by decide +kernel, by decide +kernel⟩
theorem ok_of {f n C it cS cU : Addr} {fd fdn fdIt : FuncData} (F : Fun K "of" "Table.of" sOf f fd) (S : Gs K mg C) (N : Fun K "__init__" "Table.__init__" sInit n fdn) (M : Mk K C n) (bN : Binds K fdn ["self", "rows"] [])
    (FIt : Fun K "__iter__" "Table.__iter__" sIter it fdIt) (mIt : mg "iter" = none) (bIt : Binds K fdIt ["self"] []) (i1 : PySem.W.findIn K (.ref C) "__iter__" = some (some (.ref it))) (i2 : PySem.W.isFn K (.ref it) = true)
    {wa : Addr} {fdW : FuncData} (FW : Fun K "check_words" "check_words" sCheckWords wa fdW) (mW : mg "check_words" = some (.ref wa)) (bW : Binds K fdW ["words", "size"] []) (RS : Er P K mg "BadSize" ["size"] cS) (RU : Er P K mg "UnknownWord" ["word"] cU) :
    FnOk P w K mg base (L2N.CX P w) 6 f fd ["size", "pairs"] (fun vs H Q E => spOf C cU vs H Q E ∨ spOfBad cS vs H Q E) := by
  obtain ⟨fI, fdI, FI, mI, bI⟩ := S.isS
  obtain ⟨fS, fdS, FS, mS, bS⟩ := S.chS
  refine F.okN scOf (fun vs H Q E h => ?_) (fun cdv A outer s H vs Q E hr h => ?_)
  · rcases h with ⟨n, a, P, rfl, _⟩ | ⟨n, a, rfl, _⟩ <;> rfl
  have hr4 : Room 4 _ := hr.mono (by decide)
  have hr3 : Room 3 _ := hr.mono (by decide)
  have hr1 : Room 1 _ := hr.mono (by decide)
  rcases h with ⟨n, a, P, rfl, n1, n6, src, p100, why⟩ | ⟨n, a, rfl, bad⟩
  · rcases src with ⟨qs, ha, hPq⟩ | ⟨dx, tr, tp, m, qs, ha, htp, hPq⟩
    · refine ⟨_, pss_cons (ps_expr (pe_call (ok_checkSizeX FS S.T FI mI bI RS) hr3 rfl mS FS.kp bS .nil (passUp (L2N.takes_of rfl rfl rfl rfl)) (pa_cons (pv 0) pa_nil)))
        (pss_cons (ps_setLc (i := 2) (own := [("_", 5)]) (g := (gName 5)) (tt := tYes) (te := (tLst tNil)) rfl scOf.nd rfl rfl (sw_true rfl rfl rfl (by decide +kernel)) (pi_range1 (by rfl) S.B.range (pa_cons (pv 0) pa_nil)) (blkOk_by (own := [("_", 5)]) (N := NOf) (sc := defScope sOf) (by decide +kernel)) (fun _ _ _ _ _ => (pg_name (i := 5) scOf.nd rfl (Or.inl rfl))) (fun _ _ _ _ _ => pts_nil) (fun _ _ _ _ _ => (pe_lst pa_nil)))
        (pss_cons (ps_for (L2.passes_of rfl) rfl (pi_list (pv 1)) (pg_tup (by rfl) (pgs_cons (pg_name (i := 3) scOf.nd rfl (Or.inl rfl)) (pgs_cons (pg_name (i := 4) scOf.nd rfl (Or.inl rfl)) pgs_nil))) (pss_cons (ps_expr (pe_call (ok_checkWordsX FW S RU) hr4 rfl mW FW.kp bW .nil (passUp (L2N.takes_of rfl rfl rfl rfl)) (pa_cons (pe_lst (pa_cons (pv 3) (pa_cons (pv 4) pa_nil))) (pa_cons (pv 0) pa_nil))))
        (pss_one (ps_expr (pe_bm PySem.F.plainAttrs_list PySem.F.slot_list_append PySem.F.type_list_append mt_append (pe_ix ix_list (pv 2) (pv 3) (fun _ _ => rfl)) (pa_cons (pv 4) pa_nil))))))
        (pss_one (ps_ret (pe_make M (ok_init N S) hr4 rfl S.T.mgC bN .nil pass0 (pa_cons (pv 2) pa_nil)))))), ?_⟩
      refine ⟨_, rfl, .inl ⟨(n : Int), rfl, by omega, by omega, ?_⟩⟩
      refine ⟨_, rfl, n, rfl, by omega, by omega, fun D hD => ?_⟩
      refine lc_range (lo := 0) (n := n) (fun i H' => Same H H' ∧ ∃ ks, H' D = some (.lst ks) ∧ RowsL H' ks (List.replicate i []) ∧ (∀ v ∈ ks, v ≠ .ref D) ∧ ks.Nodup ∧ ∀ a, .ref a ∈ ks → H a = none) ⟨Same.new hD, [], upd_same, .nil, (fun _ h => by cases h), List.nodup_nil, fun _ h => by cases h⟩ ?_ ?_
      · rintro i H1 hi ⟨s1, ks, hk, hKs, nD, nd, new⟩
        refine ⟨rfl, yesT (iteT ⟨Nat.zero_le _, fun u hu => ?_⟩)⟩
        have a := Same.new (H := H1) (o := .lst []) hu
        have nu : u ≠ D := (ne_of_none hk hu).symm
        obtain ⟨z1, z2⟩ := RowsL.snoc (r := []) (o := .lst (ks ++ [.ref u])) (RowsL.same a hKs) nD upd_same nu
        refine ⟨ks, a _ _ hk, ?_, Same.updN (s1.trans a) hD, ks ++ [.ref u], upd_same, ?_, z2, ?_, fun b hb => ?_⟩
        · rw [Paired.length hKs, List.length_replicate]
          exact Nat.lt_of_le_of_lt (by omega : i ≤ 6) (by decide)
        · rw [List.replicate_succ']
          exact z1
        · rw [List.nodup_append]
          refine ⟨nd, by simp, fun v hv z hz e => ?_⟩
          rw [List.mem_singleton.mp hz] at e
          obtain ⟨_, _, t, e', q⟩ := Paired.mem hKs hv
          rw [e] at e'
          cases e'
          rw [hu] at q
          cases q
        · rcases List.mem_append.mp hb with hb | hb
          · exact new b hb
          · cases List.mem_singleton.mp hb
            exact s1.free hu
      rintro H1 ⟨s1, ks, hk, hKs, _, nd, new⟩
      refine ⟨_, rfl, a, rfl, ⟨_, SqL.of (s1 _ _ ha)⟩, ?_⟩
      refine for_list (K := K) (a := a) (xs := qs) (fun i σ H' => (∃ v3 v4, σ = [some (.int (n : Int)), some (.ref a), some (.ref D), v3, v4, none]) ∧ Same H H' ∧ (∀ r ∈ P.take i, isW n r.1 = true ∧ isW n r.2 = true) ∧ ∃ ks, H' D = some (.lst ks) ∧ RowsL H' ks (ofG n (P.take i)) ∧ (ks.Nodup ∧ ∀ a, .ref a ∈ ks → H a = none)) ⟨⟨none, none, rfl⟩, s1, (fun r hr' => by rw [List.take_zero] at hr'; cases hr'), ks, hk, by rw [List.take_zero, ofG_nil]; exact hKs, nd, new⟩ (fun i σ H' _ ⟨_, s, _⟩ => SqL.of (s _ _ ha)) ?_ ?_
      · rintro i y σ H4 hi ⟨⟨v3, v4, rfl⟩, s4, good, ks4, hk4, hK4, nd4⟩
        obtain ⟨p, hp, u, rfl, hu⟩ := L2.Paired.at hPq hi
        obtain ⟨told, out⟩ := p
        have hu4 := s4 _ _ hu
        refine ⟨u, _, rfl, SqT.of hu4, rfl, _, _, rfl, _, _, rfl, rfl, ?_⟩
        refine ⟨_, rfl, _, rfl, by show 2 ≤ sizeLine; decide, fun q hq => ?_⟩
        have s5 := Same.new (H := H4) (o := .lst [.int told, .int out]) hq
        have q5 : upd H4 q (.lst [.int told, .int out]) q = some (.lst (vI [told, out])) := upd_same
        have s45 := s4.trans s5
        have hk5 := s5 _ _ hk4
        have hK5 := RowsL.same s5 hK4
        generalize upd H4 q (.lst [.int told, .int out]) = H5 at s5 q5 s45 hk5 hK5
        have tk : P.take (i + 1) = P.take i ++ [(told, out)] := take_more hp
        have fbi : (flatP (P.take i)).find? (fun x => !isW n x) = none := List.find?_eq_none.mpr fun x hx => by
          unfold flatP at hx
          obtain ⟨r, hr', hx⟩ := List.mem_flatMap.mp hx
          have := good r hr'
          rcases List.mem_cons.mp hx with rfl | hx
          · rw [this.1]; exact Bool.false_ne_true
          · rw [List.mem_singleton.mp hx, this.2]; exact Bool.false_ne_true
        have cut : flatP P = flatP (P.take i) ++ (told :: out :: flatP (P.drop (i + 1))) := by
          have hi' : i < P.length := (List.getElem?_eq_some_iff.mp hp).1
          conv => lhs; rw [← List.take_append_drop i P, List.drop_eq_getElem_cons hi', (List.getElem?_eq_some_iff.mp hp).2]
          unfold flatP
          rw [List.flatMap_append, List.flatMap_cons]
          rfl
        have fbc : fb n P = (told :: out :: flatP (P.drop (i + 1))).find? (fun x => !isW n x) := by
          unfold fb
          rw [cut, List.find?_append, fbi, Option.none_or]
        by_cases b1 : isW n told = true
        case neg =>
          have b1' : isW n told = false := by simpa using b1
          have e1 : fb n P = some told := by rw [fbc, List.find?_cons, b1']; rfl
          rcases why with ⟨z, _⟩ | ⟨x, z, pr, boom⟩
          · rw [e1] at z; cases z
          · rw [e1] at z
            cases z
            exact ⟨_, rfl, .inr ⟨q, [told, out], n, 0, told, rfl, q5, rfl, b1', fun j y hj => by omega, pr, Boom.later boom s45⟩⟩
        by_cases b2 : isW n out = true
        case neg =>
          have b2' : isW n out = false := by simpa using b2
          have e1 : fb n P = some out := by rw [fbc, List.find?_cons, b1, List.find?_cons, b2']; rfl
          rcases why with ⟨z, _⟩ | ⟨x, z, pr, boom⟩
          · rw [e1] at z; cases z
          · rw [e1] at z
            cases z
            refine ⟨_, rfl, .inr ⟨q, [told, out], n, 1, out, rfl, q5, rfl, b2', fun j y hj hy => ?_, pr, Boom.later boom s45⟩⟩
            have : j = 0 := by omega
            subst this
            cases hy
            exact b1
        refine ⟨_, rfl, .inl ⟨q, [told, out], n, rfl, q5, fun x hx => ?_, ?_⟩⟩
        · rcases List.mem_cons.mp hx with rfl | hx
          · exact b1
          · rw [List.mem_singleton.mp hx]; exact b2
        obtain ⟨t, rfl, ht⟩ := isW_at b1
        have ga : (ofG n (P.take i))[t]? = some (outs (P.take i) t) := ofG_at ht
        obtain ⟨v, hv, a, rfl, ha⟩ := L2.Paired.at2 hK5 ga
        have lo : (outs (P.take i) t).length ≤ 100 := Nat.le_trans (outs_len _ _) (Nat.le_trans (List.length_take_le' _ _) p100)
        refine ⟨_, rfl, _, rfl, D, _, _, _, rfl, rfl, SqL.of hk5, atI_nat hv, .inl ⟨rfl, _, SqL.of ha⟩, _, rfl, a, _, _, rfl, rfl, ha, by rw [vI_len]; exact Nat.lt_of_le_of_lt lo (by decide), ⟨_, _, rfl⟩, ?_⟩
        have nDa : D ≠ a := fun z => RowsL.avoidS hK5 hk5 _ (List.mem_of_getElem? hv) (by rw [z])
        have aH : H a = none := nd4.2 a (List.mem_of_getElem? hv)
        refine ⟨Same.updN s45 aH, fun r hr' => ?_, ks4, by rw [upd_ne nDa]; exact hk5, ?_, nd4⟩
        · rw [tk] at hr'
          rcases List.mem_append.mp hr' with hr' | hr'
          · exact good r hr'
          · rw [List.mem_singleton.mp hr']; exact ⟨b1, b2⟩
        · have put := RowsL.putAt (g := outs (P.take i) t ++ [out]) hK5 nd4.1 hv
          rw [tk, ofG_more ht]
          have e : (vI (outs (P.take i) t) ++ [V.int out]) = vI (outs (P.take i) t ++ [out]) := by unfold vI; rw [List.map_append]; rfl
          rw [e]
          exact put
      · rintro σ H4 ⟨⟨v3, v4, rfl⟩, s4, good, ks4, hk4, hK4, nd4⟩
        rw [Paired.length hPq, List.take_length] at good hK4
        have e1 : fb n P = none := List.find?_eq_none.mpr fun x hx => by
          unfold flatP at hx
          obtain ⟨r, hr', hx⟩ := List.mem_flatMap.mp hx
          have := good r hr'
          rcases List.mem_cons.mp hx with rfl | hx
          · rw [this.1]; exact Bool.false_ne_true
          · rw [List.mem_singleton.mp hx, this.2]; exact Bool.false_ne_true
        rcases why with ⟨_, k⟩ | ⟨x, z, _⟩
        · refine ⟨_, rfl, init_ofG hk4 hK4 ofG_len n1 n6 (fun g hg => ?_) fun H6 x s6 x0 Tx => k H6 x (s4.trans s6) (s4.free x0) Tx⟩
          obtain ⟨t, ht, rfl⟩ := List.mem_map.mp hg
          refine ⟨Nat.lt_of_le_of_lt (Nat.le_trans (outs_len _ _) p100) (by decide), List.all_eq_true.mpr fun o ho => ?_⟩
          unfold outs at ho
          obtain ⟨r, hr', rfl⟩ := List.mem_map.mp ho
          exact (good r (List.mem_filter.mp hr').1).2
        · rw [e1] at z; cases z
    · refine ⟨_, pss_cons (ps_expr (pe_call (ok_checkSizeX FS S.T FI mI bI RS) hr3 rfl mS FS.kp bS .nil (passUp (L2N.takes_of rfl rfl rfl rfl)) (pa_cons (pv 0) pa_nil)))
        (pss_cons (ps_setLc (i := 2) (own := [("_", 5)]) (g := (gName 5)) (tt := tYes) (te := (tLst tNil)) rfl scOf.nd rfl rfl (sw_true rfl rfl rfl (by decide +kernel)) (pi_range1 (by rfl) S.B.range (pa_cons (pv 0) pa_nil)) (blkOk_by (own := [("_", 5)]) (N := NOf) (sc := defScope sOf) (by decide +kernel)) (fun _ _ _ _ _ => (pg_name (i := 5) scOf.nd rfl (Or.inl rfl))) (fun _ _ _ _ _ => pts_nil) (fun _ _ _ _ _ => (pe_lst pa_nil)))
        (pss_cons (ps_for (L2.passes_of rfl) rfl (pi_tab FIt S.T mIt bIt i1 i2 hr1 (pv 1)) (pg_tup (by rfl) (pgs_cons (pg_name (i := 3) scOf.nd rfl (Or.inl rfl)) (pgs_cons (pg_name (i := 4) scOf.nd rfl (Or.inl rfl)) pgs_nil))) (pss_cons (ps_expr (pe_call (ok_checkWordsX FW S RU) hr4 rfl mW FW.kp bW .nil (passUp (L2N.takes_of rfl rfl rfl rfl)) (pa_cons (pe_lst (pa_cons (pv 3) (pa_cons (pv 4) pa_nil))) (pa_cons (pv 0) pa_nil))))
        (pss_one (ps_expr (pe_bm PySem.F.plainAttrs_list PySem.F.slot_list_append PySem.F.type_list_append mt_append (pe_ix ix_list (pv 2) (pv 3) (fun _ _ => rfl)) (pa_cons (pv 4) pa_nil))))))
        (pss_one (ps_ret (pe_make M (ok_init N S) hr4 rfl S.T.mgC bN .nil pass0 (pa_cons (pv 2) pa_nil)))))), ?_⟩
      refine ⟨_, rfl, .inl ⟨(n : Int), rfl, by omega, by omega, ?_⟩⟩
      refine ⟨_, rfl, n, rfl, by omega, by omega, fun D hD => ?_⟩
      refine lc_range (lo := 0) (n := n) (fun i H' => Same H H' ∧ ∃ ks, H' D = some (.lst ks) ∧ RowsL H' ks (List.replicate i []) ∧ (∀ v ∈ ks, v ≠ .ref D) ∧ ks.Nodup ∧ ∀ a, .ref a ∈ ks → H a = none) ⟨Same.new hD, [], upd_same, .nil, (fun _ h => by cases h), List.nodup_nil, fun _ h => by cases h⟩ ?_ ?_
      · rintro i H1 hi ⟨s1, ks, hk, hKs, nD, nd, new⟩
        refine ⟨rfl, yesT (iteT ⟨Nat.zero_le _, fun u hu => ?_⟩)⟩
        have a := Same.new (H := H1) (o := .lst []) hu
        have nu : u ≠ D := (ne_of_none hk hu).symm
        obtain ⟨z1, z2⟩ := RowsL.snoc (r := []) (o := .lst (ks ++ [.ref u])) (RowsL.same a hKs) nD upd_same nu
        refine ⟨ks, a _ _ hk, ?_, Same.updN (s1.trans a) hD, ks ++ [.ref u], upd_same, ?_, z2, ?_, fun b hb => ?_⟩
        · rw [Paired.length hKs, List.length_replicate]
          exact Nat.lt_of_le_of_lt (by omega : i ≤ 6) (by decide)
        · rw [List.replicate_succ']
          exact z1
        · rw [List.nodup_append]
          refine ⟨nd, by simp, fun v hv z hz e => ?_⟩
          rw [List.mem_singleton.mp hz] at e
          obtain ⟨_, _, t, e', q⟩ := Paired.mem hKs hv
          rw [e] at e'
          cases e'
          rw [hu] at q
          cases q
        · rcases List.mem_append.mp hb with hb | hb
          · exact new b hb
          · cases List.mem_singleton.mp hb
            exact s1.free hu
      rintro H1 ⟨s1, ks, hk, hKs, _, nd, new⟩
      refine ⟨_, rfl, a, dx, tr, tp, m, qs, rfl, s1 _ _ ha, s1 _ _ htp, ?_⟩
      refine for_tup (K := K) (a := tp) (xs := qs) (fun i σ H' => (∃ v3 v4, σ = [some (.int (n : Int)), some (.ref a), some (.ref D), v3, v4, none]) ∧ Same H H' ∧ (∀ r ∈ P.take i, isW n r.1 = true ∧ isW n r.2 = true) ∧ ∃ ks, H' D = some (.lst ks) ∧ RowsL H' ks (ofG n (P.take i)) ∧ (ks.Nodup ∧ ∀ a, .ref a ∈ ks → H a = none)) ⟨⟨none, none, rfl⟩, s1, (fun r hr' => by rw [List.take_zero] at hr'; cases hr'), ks, hk, by rw [List.take_zero, ofG_nil]; exact hKs, nd, new⟩ (fun i σ H' _ ⟨_, s, _⟩ => SqT.of (s _ _ htp)) ?_ ?_
      · rintro i y σ H4 hi ⟨⟨v3, v4, rfl⟩, s4, good, ks4, hk4, hK4, nd4⟩
        obtain ⟨p, hp, u, rfl, hu⟩ := L2.Paired.at hPq hi
        obtain ⟨told, out⟩ := p
        have hu4 := s4 _ _ hu
        refine ⟨u, _, rfl, SqT.of hu4, rfl, _, _, rfl, _, _, rfl, rfl, ?_⟩
        refine ⟨_, rfl, _, rfl, by show 2 ≤ sizeLine; decide, fun q hq => ?_⟩
        have s5 := Same.new (H := H4) (o := .lst [.int told, .int out]) hq
        have q5 : upd H4 q (.lst [.int told, .int out]) q = some (.lst (vI [told, out])) := upd_same
        have s45 := s4.trans s5
        have hk5 := s5 _ _ hk4
        have hK5 := RowsL.same s5 hK4
        generalize upd H4 q (.lst [.int told, .int out]) = H5 at s5 q5 s45 hk5 hK5
        have tk : P.take (i + 1) = P.take i ++ [(told, out)] := take_more hp
        have fbi : (flatP (P.take i)).find? (fun x => !isW n x) = none := List.find?_eq_none.mpr fun x hx => by
          unfold flatP at hx
          obtain ⟨r, hr', hx⟩ := List.mem_flatMap.mp hx
          have := good r hr'
          rcases List.mem_cons.mp hx with rfl | hx
          · rw [this.1]; exact Bool.false_ne_true
          · rw [List.mem_singleton.mp hx, this.2]; exact Bool.false_ne_true
        have cut : flatP P = flatP (P.take i) ++ (told :: out :: flatP (P.drop (i + 1))) := by
          have hi' : i < P.length := (List.getElem?_eq_some_iff.mp hp).1
          conv => lhs; rw [← List.take_append_drop i P, List.drop_eq_getElem_cons hi', (List.getElem?_eq_some_iff.mp hp).2]
          unfold flatP
          rw [List.flatMap_append, List.flatMap_cons]
          rfl
        have fbc : fb n P = (told :: out :: flatP (P.drop (i + 1))).find? (fun x => !isW n x) := by
          unfold fb
          rw [cut, List.find?_append, fbi, Option.none_or]
        by_cases b1 : isW n told = true
        case neg =>
          have b1' : isW n told = false := by simpa using b1
          have e1 : fb n P = some told := by rw [fbc, List.find?_cons, b1']; rfl
          rcases why with ⟨z, _⟩ | ⟨x, z, pr, boom⟩
          · rw [e1] at z; cases z
          · rw [e1] at z
            cases z
            exact ⟨_, rfl, .inr ⟨q, [told, out], n, 0, told, rfl, q5, rfl, b1', fun j y hj => by omega, pr, Boom.later boom s45⟩⟩
        by_cases b2 : isW n out = true
        case neg =>
          have b2' : isW n out = false := by simpa using b2
          have e1 : fb n P = some out := by rw [fbc, List.find?_cons, b1, List.find?_cons, b2']; rfl
          rcases why with ⟨z, _⟩ | ⟨x, z, pr, boom⟩
          · rw [e1] at z; cases z
          · rw [e1] at z
            cases z
            refine ⟨_, rfl, .inr ⟨q, [told, out], n, 1, out, rfl, q5, rfl, b2', fun j y hj hy => ?_, pr, Boom.later boom s45⟩⟩
            have : j = 0 := by omega
            subst this
            cases hy
            exact b1
        refine ⟨_, rfl, .inl ⟨q, [told, out], n, rfl, q5, fun x hx => ?_, ?_⟩⟩
        · rcases List.mem_cons.mp hx with rfl | hx
          · exact b1
          · rw [List.mem_singleton.mp hx]; exact b2
        obtain ⟨t, rfl, ht⟩ := isW_at b1
        have ga : (ofG n (P.take i))[t]? = some (outs (P.take i) t) := ofG_at ht
        obtain ⟨v, hv, a, rfl, ha⟩ := L2.Paired.at2 hK5 ga
        have lo : (outs (P.take i) t).length ≤ 100 := Nat.le_trans (outs_len _ _) (Nat.le_trans (List.length_take_le' _ _) p100)
        refine ⟨_, rfl, _, rfl, D, _, _, _, rfl, rfl, SqL.of hk5, atI_nat hv, .inl ⟨rfl, _, SqL.of ha⟩, _, rfl, a, _, _, rfl, rfl, ha, by rw [vI_len]; exact Nat.lt_of_le_of_lt lo (by decide), ⟨_, _, rfl⟩, ?_⟩
        have nDa : D ≠ a := fun z => RowsL.avoidS hK5 hk5 _ (List.mem_of_getElem? hv) (by rw [z])
        have aH : H a = none := nd4.2 a (List.mem_of_getElem? hv)
        refine ⟨Same.updN s45 aH, fun r hr' => ?_, ks4, by rw [upd_ne nDa]; exact hk5, ?_, nd4⟩
        · rw [tk] at hr'
          rcases List.mem_append.mp hr' with hr' | hr'
          · exact good r hr'
          · rw [List.mem_singleton.mp hr']; exact ⟨b1, b2⟩
        · have put := RowsL.putAt (g := outs (P.take i) t ++ [out]) hK5 nd4.1 hv
          rw [tk, ofG_more ht]
          have e : (vI (outs (P.take i) t) ++ [V.int out]) = vI (outs (P.take i) t ++ [out]) := by unfold vI; rw [List.map_append]; rfl
          rw [e]
          exact put
      · rintro σ H4 ⟨⟨v3, v4, rfl⟩, s4, good, ks4, hk4, hK4, nd4⟩
        rw [Paired.length hPq, List.take_length] at good hK4
        have e1 : fb n P = none := List.find?_eq_none.mpr fun x hx => by
          unfold flatP at hx
          obtain ⟨r, hr', hx⟩ := List.mem_flatMap.mp hx
          have := good r hr'
          rcases List.mem_cons.mp hx with rfl | hx
          · rw [this.1]; exact Bool.false_ne_true
          · rw [List.mem_singleton.mp hx, this.2]; exact Bool.false_ne_true
        rcases why with ⟨_, k⟩ | ⟨x, z, _⟩
        · refine ⟨_, rfl, init_ofG hk4 hK4 ofG_len n1 n6 (fun g hg => ?_) fun H6 x s6 x0 Tx => k H6 x (s4.trans s6) (s4.free x0) Tx⟩
          obtain ⟨t, ht, rfl⟩ := List.mem_map.mp hg
          refine ⟨Nat.lt_of_le_of_lt (Nat.le_trans (outs_len _ _) p100) (by decide), List.all_eq_true.mpr fun o ho => ?_⟩
          unfold outs at ho
          obtain ⟨r, hr', rfl⟩ := List.mem_map.mp ho
          exact (good r (List.mem_filter.mp hr').1).2
        · rw [e1] at z; cases z
  · refine ⟨_, pss_cons (ps_expr (pe_call (ok_checkSizeX FS S.T FI mI bI RS) hr3 rfl mS FS.kp bS .nil (passUp (L2N.takes_of rfl rfl rfl rfl)) (pa_cons (pv 0) pa_nil))) pss_never, ?_⟩
    exact ⟨_, rfl, .inr ⟨n, rfl, bad⟩⟩
end
end Toy
namespace Toy
open PySem PySem.Spec PyProof.Rows L2
abbrev sMadeErr : Stmt := top 45
abbrev sSmaller : Stmt := top 46
structure Mk3 (K : PySem.W.Frag) (mg : Str → Option Value) (C : Addr) : Prop where
  mIt : mg "iter" = none
  init : ∃ f fd, Fun K "__init__" "Table.__init__" sInit f fd ∧ Mk K C f ∧ Binds K fd ["self", "rows"] []
  iter : ∃ f fd, Fun K "__iter__" "Table.__iter__" sIter f fd ∧ (PySem.W.findIn K (.ref C) "__iter__" = some (some (.ref f)) ∧ PySem.W.isFn K (.ref f) = true) ∧ Binds K fd ["self"] []
  chW : ∃ f fd, Fun K "check_words" "check_words" sCheckWords f fd ∧ mg "check_words" = some (.ref f) ∧ Binds K fd ["words", "size"] []
  ident : ∃ f fd, Fun K "identity" "Table.identity" sIdent f fd ∧ (∃ p, ClX.CMet K C (.type "type") "identity" p f) ∧ Binds K fd ["cls", "size"] []
  full : ∃ f fd, Fun K "full" "Table.full" sFull f fd ∧ (∃ p, ClX.CMet K C (.type "type") "full" p f) ∧ Binds K fd ["cls", "size"] []
  empty : ∃ f fd, Fun K "empty" "Table.empty" sEmpty f fd ∧ (∃ p, ClX.CMet K C (.type "type") "empty" p f) ∧ Binds K fd ["cls", "size"] []
  of : ∃ f fd, Fun K "of" "Table.of" sOf f fd ∧ (∃ p, StX.SMet K C (.type "type") "of" p f) ∧ Binds K fd ["size", "pairs"] []
def spME (C : Addr) : Sp := fun vs H Q _ => ∃ (i : Nat) (n : Int) (v : V), vs = [.int i, .int n, v] ∧ i < 4 ∧
  (((decide (1 ≤ n) && decide (n ≤ 6)) = false ∧ Pr (.int n) ∧ (∃ a, v = .ref a) ∧ NewL H Q [.str "size", .int n, .bl true]) ∨ (∃ m : Nat, n = (m : Int) ∧ i < 3 ∧ 1 ≤ m ∧ m ≤ 6 ∧ NewL H Q []) ∨
  (∃ (m : Nat) (a : Addr) (P : List (Int × Int)), n = (m : Int) ∧ i = 3 ∧ 1 ≤ m ∧ m ≤ 6 ∧ v = .ref a ∧ Src C H a P ∧ P.length ≤ 100 ∧ ((fb m P = none ∧ NewL H Q []) ∨ ∃ x, fb m P = some x ∧ Pr (.int x) ∧ NewL H Q [.str "word", .int x, .bl true])))
section
variable {P : Program} {w : World} {K : PySem.W.Frag} {mg : Str → Option Value} {base : Heap}
theorem cls_raw {f : Addr} {fd : FuncData} {CX : CXT} {k : Nat} {ps : List Str} {sp : Sp} (F : FnOk P w K mg base CX k f fd ps sp) (b : Binds K fd ps []) : FnR P w K mg base CX k f sp := FnR.imp (F.raw b .nil) fun vs H Q E h => by rw [List.append_nil]; exact h
abbrev NME : List Str := ["_law_which", "_law_n", "_law_pairs_here", "_law_e"]
theorem scME : FnScope NME ["_law_which", "_law_n", "_law_pairs_here"] (defScope sMadeErr) := ⟨rfl, rfl, rfl, by decide +kernel, rfl, by decide +kernel, by decide +kernel⟩
theorem ok_ME {f C : Addr} {fd : FuncData} {r : Errs} (F : Fun K "_law_made_error" "_law_made_error" sMadeErr f fd) (S : Gs K mg C) (O : Mk3 K mg C) (h : Hk P K mg r) (RS : ErX P K mg r "BadSize" ["size"] r.c0) (RU : ErX P K mg r "UnknownWord" ["word"] r.c2)
    (x00 : PySem.W.exmOne K (.ref r.c0) (.ref r.c0) = some true) (x20 : PySem.W.exmOne K (.ref r.c2) (.ref r.c0) = some false) (x22 : PySem.W.exmOne K (.ref r.c2) (.ref r.c2) = some true) : FnOk P w K mg base CX0 8 f fd ["_law_which", "_law_n", "_law_pairs_here"] (spME C) := by
  obtain ⟨fg, fdg, FG, mG, bG⟩ := h.single
  obtain ⟨fN, fdN, FN, MN, bN⟩ := O.init
  obtain ⟨fIt, fdIt, FIt, ⟨i1, i2⟩, bIt⟩ := O.iter
  obtain ⟨fW, fdW, FW, mW, bW⟩ := O.chW
  obtain ⟨f1, fd1, F1, ⟨p1, c1⟩, b1⟩ := O.ident
  obtain ⟨f2, fd2, F2, ⟨p2, c2⟩, b2⟩ := O.full
  obtain ⟨f3, fd3, F3, ⟨p3, c3⟩, b3⟩ := O.empty
  obtain ⟨f4, fd4, F4, ⟨p4, c4⟩, b4⟩ := O.of
  refine F.ok scME (fun vs H Q E h => ?_) (fun cdv A outer s H vs Q E hr hh => ?_)
  · obtain ⟨i, n, v, rfl, _⟩ := h
    rfl
  · obtain ⟨i, n, v, rfl, hi, why⟩ := hh
    have hr1 : Room 1 _ := hr.mono (by decide)
    have hr5 : Room 5 _ := hr.mono (by decide)
    have hr6 : Room 6 _ := hr.mono (by decide)
    refine ⟨_, pss_cons (L2N.ps_try_clauses (i := 3) rfl rfl scME.nd rfl rfl takesF (fun W pn xe tk _ => pss_one (ps_if (pt_cmpR op_eq (pv 0) pe_int (nomark _)) (pss_one (ps_expr (ClX.pe_cmeth (pe_glob rfl S.T.mgC (v := .ref C) rfl) S.T.rd c1 (cls_raw (ok_identX F1 S FN MN bN RS.er) b1) hr5 (passTry 4 tk) (pa_cons (pv 1) pa_nil))))
          (pss_one (ps_if (pt_cmpR op_eq (pv 0) pe_int (nomark _)) (pss_one (ps_expr (ClX.pe_cmeth (pe_glob rfl S.T.mgC (v := .ref C) rfl) S.T.rd c2 (cls_raw (ok_fullX F2 S FN MN bN RS.er) b2) hr5 (passTry 4 tk) (pa_cons (pv 1) pa_nil))))
          (pss_one (ps_if (pt_cmpR op_eq (pv 0) pe_int (nomark _)) (pss_one (ps_expr (ClX.pe_cmeth (pe_glob rfl S.T.mgC (v := .ref C) rfl) S.T.rd c3 (cls_raw (ok_emptyX F3 S FN MN bN RS.er) b3) hr5 (passTry 4 tk) (pa_cons (pv 1) pa_nil))))
            (pss_one (ps_expr (StX.pe_smeth (pe_glob rfl S.T.mgC (v := .ref C) rfl) S.T.rd c4 F4.kp (cls_raw (ok_of F4 S FN MN bN FIt O.mIt bIt i1 i2 FW mW bW RS.er RU.er) b4) hr6 (passTry 4 tk) (pa_cons (pv 1) (pa_cons (pv 2) pa_nil))))))))))) 
        (.cons ⟨rfl, by decide, .inl h.G.e0⟩ (fun a oe cls d pn hz hf => pss_one (ps_ret (pe_lst (pa_cons pe_str (pa_cons (pe_xf RS.xf (RS.no _ (by simp)) hz.zc hf (pv 3)) (pa_cons (pe_single 3 (ok_single FG h.G) hr1 hz hf mG FG.kp bG) pa_nil))))))
        (.cons ⟨rfl, by decide, .inl h.G.e2⟩ (fun a oe cls d pn hz hf => pss_one (ps_ret (pe_lst (pa_cons pe_str (pa_cons (pe_xf RU.xf (RU.no _ (by simp)) hz.zc hf (pv 3)) (pa_cons (pe_single 3 (ok_single FG h.G) hr1 hz hf mG FG.kp bG) pa_nil))))))
        .nil)))
      (pss_one (ps_ret (pe_lst pa_nil))), ?_⟩
    rcases why with ⟨bad, pr, ⟨a, rfl⟩, k⟩ | ⟨m, rfl, i3, m1, m6, k⟩ | ⟨m, a, P', rfl, rfl, m1, m6, rfl, src, p100, why⟩
    · match i, hi with
      | 0, _ => exact ⟨_, rfl, rfl, _, rfl, iteT ⟨rfl, _, rfl, .inr ⟨n, rfl, bad, pr, fun H2 d s2 d0 hd σ hσ => ⟨true, x00, iteT fun a_ _ => ⟨_, slot_set hσ (by decide), rfl, rfl, d, _, _, rfl, hd, rfl, slot_set hσ (by decide), r.c0, d, _, rfl, rfl, RS.kit, hd, fun H3 s3 => ⟨by show 3 ≤ sizeLine; decide, fun q2 hq2 => k _ q2 ((s2.trans s3).trans (Same.new hq2)) ((s2.trans s3).free hq2) upd_same⟩⟩⟩⟩⟩⟩
      | 1, _ => exact ⟨_, rfl, rfl, _, rfl, iteF ⟨_, rfl, rfl, _, rfl, iteT ⟨rfl, _, rfl, .inr ⟨n, rfl, bad, pr, fun H2 d s2 d0 hd σ hσ => ⟨true, x00, iteT fun a_ _ => ⟨_, slot_set hσ (by decide), rfl, rfl, d, _, _, rfl, hd, rfl, slot_set hσ (by decide), r.c0, d, _, rfl, rfl, RS.kit, hd, fun H3 s3 => ⟨by show 3 ≤ sizeLine; decide, fun q2 hq2 => k _ q2 ((s2.trans s3).trans (Same.new hq2)) ((s2.trans s3).free hq2) upd_same⟩⟩⟩⟩⟩⟩⟩
      | 2, _ => exact ⟨_, rfl, rfl, _, rfl, iteF ⟨_, rfl, rfl, _, rfl, iteF ⟨_, rfl, rfl, _, rfl, iteT ⟨rfl, _, rfl, .inr ⟨n, rfl, bad, pr, fun H2 d s2 d0 hd σ hσ => ⟨true, x00, iteT fun a_ _ => ⟨_, slot_set hσ (by decide), rfl, rfl, d, _, _, rfl, hd, rfl, slot_set hσ (by decide), r.c0, d, _, rfl, rfl, RS.kit, hd, fun H3 s3 => ⟨by show 3 ≤ sizeLine; decide, fun q2 hq2 => k _ q2 ((s2.trans s3).trans (Same.new hq2)) ((s2.trans s3).free hq2) upd_same⟩⟩⟩⟩⟩⟩⟩⟩
      | 3, _ => exact ⟨_, rfl, rfl, _, rfl, iteF ⟨_, rfl, rfl, _, rfl, iteF ⟨_, rfl, rfl, _, rfl, iteF ⟨rfl, _, rfl, _, rfl, .inr ⟨n, a, rfl, bad, pr, fun H2 d s2 d0 hd σ hσ => ⟨true, x00, iteT fun a_ _ => ⟨_, slot_set hσ (by decide), rfl, rfl, d, _, _, rfl, hd, rfl, slot_set hσ (by decide), r.c0, d, _, rfl, rfl, RS.kit, hd, fun H3 s3 => ⟨by show 3 ≤ sizeLine; decide, fun q2 hq2 => k _ q2 ((s2.trans s3).trans (Same.new hq2)) ((s2.trans s3).free hq2) upd_same⟩⟩⟩⟩⟩⟩⟩⟩
    · have back : ∀ {H1 : Hp}, Same H H1 → ([] : List V).length ≤ sizeLine ∧ ∀ q2, H1 q2 = none → Q (.ref q2) (upd H1 q2 (.lst [])) := fun {H1} s1 => ⟨Nat.zero_le _, fun q2 hq2 => k _ q2 (s1.trans (Same.new hq2)) (s1.free hq2) upd_same⟩
      match i, i3 with
      | 0, _ => exact ⟨_, rfl, rfl, _, rfl, iteT ⟨rfl, _, rfl, .inl ⟨m, rfl, m1, m6, fun H1 x s1 _ _ => back s1⟩⟩⟩
      | 1, _ => exact ⟨_, rfl, rfl, _, rfl, iteF ⟨_, rfl, rfl, _, rfl, iteT ⟨rfl, _, rfl, .inl ⟨m, rfl, m1, m6, fun H1 x s1 _ _ => back s1⟩⟩⟩⟩
      | 2, _ => exact ⟨_, rfl, rfl, _, rfl, iteF ⟨_, rfl, rfl, _, rfl, iteF ⟨_, rfl, rfl, _, rfl, iteT ⟨rfl, _, rfl, .inl ⟨m, rfl, m1, m6, fun H1 x s1 _ _ => back s1⟩⟩⟩⟩⟩
    · rcases why with ⟨e, k⟩ | ⟨x, e, pr, k⟩
      · exact ⟨_, rfl, rfl, _, rfl, iteF ⟨_, rfl, rfl, _, rfl, iteF ⟨_, rfl, rfl, _, rfl, iteF ⟨rfl, _, rfl, _, rfl, .inl ⟨m, a, P', rfl, m1, m6, src, p100, .inl ⟨e, fun H1 x s1 _ _ => ⟨Nat.zero_le _, fun q2 hq2 => k _ q2 (s1.trans (Same.new hq2)) (s1.free hq2) upd_same⟩⟩⟩⟩⟩⟩⟩
      · exact ⟨_, rfl, rfl, _, rfl, iteF ⟨_, rfl, rfl, _, rfl, iteF ⟨_, rfl, rfl, _, rfl, iteF ⟨rfl, _, rfl, _, rfl, .inl ⟨m, a, P', rfl, m1, m6, src, p100, .inr ⟨x, e, pr, fun H2 d s2 d0 hd σ hσ => ⟨false, x20, iteF ⟨true, x22, iteT fun a_ _ => ⟨_, slot_set hσ (by decide), rfl, rfl, d, _, _, rfl, hd, rfl, slot_set hσ (by decide), r.c2, d, _, rfl, rfl, RU.kit, hd, fun H3 s3 => ⟨by show 3 ≤ sizeLine; decide, fun q2 hq2 => k _ q2 ((s2.trans s3).trans (Same.new hq2)) ((s2.trans s3).free hq2) upd_same⟩⟩⟩⟩⟩⟩⟩⟩⟩⟩
end
end Toy
namespace L2
open PySem PySem.Spec PyProof.Rows
section
variable {X : Cx} {CX : CXT} {k : Nat} {C f : Addr} {fd : FuncData} {ps : List Str} {sp : Sp} {E : XK}
end
end L2
namespace Toy
open PySem L2
section
variable {P : Program} {w : World} {K : PySem.W.Frag} {mg : Str → Option Value} {base : Heap}
end
end Toy
namespace Toy
open PySem L2
section
variable {P : Program} {w : World} {K : PySem.W.Frag} {mg : Str → Option Value} {base : Heap}
end
end Toy
namespace Toy
open PySem L2
/-! ### the mathematics -/
theorem prs_mem : ∀ {k : Nat} {R : List (List Int)} {p : Int × Int}, p ∈ prs k R ↔ ∃ j : Nat, j < R.length ∧ p.1 = ((k + j : Nat) : Int) ∧ p.2 ∈ row R j
  | k, [], p => by simp [prs]
  | k, r :: R, p => by
    rw [show prs k (r :: R) = r.map (fun x => ((k : Int), x)) ++ prs (k + 1) R from rfl, List.mem_append, prs_mem (k := k + 1)]
    constructor
    · rintro (h | ⟨j, h1, h2, h3⟩)
      · obtain ⟨x, hx, rfl⟩ := List.mem_map.mp h
        exact ⟨0, by simp, by simp, by rw [row_of (r := r) rfl]; exact hx⟩
      · refine ⟨j + 1, by simp; omega, by rw [h2]; congr 1; omega, ?_⟩
        have e : row (r :: R) (j + 1) = row R j := by unfold row; simp
        rw [e]
        exact h3
    · rintro ⟨j, h1, h2, h3⟩
      cases j with
      | zero =>
        left
        rw [row_of (r := r) rfl] at h3
        exact List.mem_map.mpr ⟨p.2, h3, by rw [Nat.add_zero] at h2; rw [← h2]⟩
      | succ j =>
        right
        have e : row (r :: R) (j + 1) = row R j := by unfold row; simp
        rw [e] at h3
        exact ⟨j, by simp at h1; omega, by rw [h2]; congr 1; omega, h3⟩
def le (R W : List (List Int)) : Bool := (prs 0 R).all fun p => decide (p ∈ prs 0 W)
theorem le_iff {n : Nat} {R W : List (List Int)} (hR : R.length = n) (hW : W.length = n) : le R W = true ↔ ∀ j, j < n → ∀ x ∈ row R j, x ∈ row W j := by
  unfold le
  rw [List.all_eq_true]
  constructor
  · intro h j hj x hx
    have q := of_decide_eq_true (h ((j : Int), x) (prs_mem.mpr ⟨j, by omega, by simp, hx⟩))
    obtain ⟨i, hi, e, hx'⟩ := prs_mem.mp q
    have : i = j := by
      have : ((j : Nat) : Int) = ((0 + i : Nat) : Int) := e
      omega
    subst this
    exact hx'
  · intro h p hp
    obtain ⟨j, hj, e, hx⟩ := prs_mem.mp hp
    exact decide_eq_true (prs_mem.mpr ⟨j, by omega, e, h j (by omega) _ hx⟩)
theorem le_refl {n : Nat} {R : List (List Int)} (h : R.length = n) : le R R = true := (le_iff h h).mpr fun _ _ _ hx => hx
end Toy
namespace Toy
open PySem PySem.Spec PyProof.Rows L2
theorem find_low {p : Int → Bool} : ∀ {L : List Int} {a : Int}, L.Pairwise (· ≤ ·) → L.find? p = some a → ∀ b ∈ L, p b = true → a ≤ b
  | [], _, _, h => by simp at h
  | x :: L, a, pw, h => by
    have ⟨h1, h2⟩ := List.pairwise_cons.mp pw
    rw [List.find?_cons] at h
    intro b hb pb
    cases e : p x with
    | true =>
      rw [e] at h
      cases h
      rcases List.mem_cons.mp hb with rfl | hb
      · exact Int.le_refl _
      · exact h1 b hb
    | false =>
      rw [e] at h
      rcases List.mem_cons.mp hb with rfl | hb
      · rw [e] at pb; cases pb
      · exact find_low h2 h b hb pb
theorem find_sorted {p : Int → Bool} {L M : List Int} (hL : L.Pairwise (· ≤ ·)) (hM : M.Pairwise (· ≤ ·)) (m : ∀ x, x ∈ L ↔ x ∈ M) : L.find? p = M.find? p := by
  cases e : L.find? p with
  | none =>
    rw [eq_comm, List.find?_eq_none]
    intro x hx
    exact List.find?_eq_none.mp e x ((m x).mpr hx)
  | some a =>
    have pa := List.find?_some e
    have ma := List.mem_of_find?_eq_some e
    cases e' : M.find? p with
    | none => exact absurd pa (List.find?_eq_none.mp e' a ((m a).mp ma))
    | some b =>
      have pb := List.find?_some e'
      have mb := List.mem_of_find?_eq_some e'
      have h1 := find_low hL e b ((m b).mpr mb) pb
      have h2 := find_low hM e' a ((m a).mp ma) pa
      rw [show a = b by omega]
def code (p : Int × Int) : Int := 10 * p.1 + p.2
def val (c : Int) : Int := if c / 10 ≠ 0 then c / 10 else c - c / 10 * 10
def part (c : Int) : List Int := [c / 10, c - c / 10 * 10].filter fun x => decide (0 < x)
def bey (L : List Int) : List Int := L.flatMap part
theorem part_zero : part 0 = [] := by decide
theorem part_head {c : Int} (h : 0 ≤ c) (n : c ≠ 0) : (part c).head? = some (val c) := by
  unfold part val
  by_cases a : c / 10 = 0
  · have : 0 < c - c / 10 * 10 := by omega
    rw [if_neg (by simpa using a), List.filter_cons, a]
    simp only [a, Int.zero_mul, Int.sub_zero] at this ⊢
    simp [this]
  · have : 0 < c / 10 := by omega
    rw [if_pos a, List.filter_cons, if_pos (by simpa using this)]
    rfl
theorem bey_head : ∀ {L : List Int}, (∀ c ∈ L, 0 ≤ c) → (bey L).head? = (L.find? fun c => decide (c ≠ 0)).map val
  | [], _ => rfl
  | c :: L, h => by
    have ih := bey_head (L := L) fun x hx => h x (by simp [hx])
    show (part c ++ bey L).head? = _
    rw [List.find?_cons]
    by_cases z : c = 0
    · subst z
      rw [part_zero]
      simpa using ih
    · rw [decide_eq_true z]
      have := part_head (h c (by simp)) z
      cases e : part c with
      | nil => rw [e] at this; cases this
      | cons x xs => rw [e] at this; simpa using this
theorem fb_code : ∀ {P : List (Int × Int)}, (∀ p ∈ P, 0 ≤ p.1 ∧ 0 ≤ p.2 ∧ p.2 < 10) → fb 1 P = ((P.map code).find? fun c => decide (c ≠ 0)).map val
  | [], _ => rfl
  | (a, b) :: P, h => by
    have ih := fb_code (P := P) fun x hx => h x (by simp [hx])
    have h0 := h (a, b) (by simp)
    have h1 : 0 ≤ a := h0.1
    have h2 : 0 ≤ b := h0.2.1
    have h3 : b < 10 := h0.2.2
    unfold fb flatP at ih ⊢
    rw [List.flatMap_cons, List.map_cons, List.find?_cons]
    show (a :: b :: P.flatMap fun p => [p.1, p.2]).find? _ = _
    have w : ∀ x : Int, 0 ≤ x → (!isW 1 x) = decide (x ≠ 0) := fun x hx => by
      unfold isW
      rw [decide_eq_true hx, Bool.true_and]
      by_cases z : x = 0
      · subst z; rfl
      · rw [decide_eq_true z, decide_eq_false (by omega)]; rfl
    rw [List.find?_cons, w a h1, List.find?_cons, w b h2]
    by_cases za : a = 0
    · subst za
      rw [decide_eq_false (by simp)]
      by_cases zb : b = 0
      · subst zb
        rw [decide_eq_false (by simp), show code (0, 0) = 0 from rfl, decide_eq_false (by simp)]
        exact ih
      · have c : code (0, b) = b := by unfold code; simp
        rw [decide_eq_true zb, c, decide_eq_true zb]
        show some b = some (val b)
        unfold val
        have : b / 10 = 0 := by omega
        rw [if_neg (by simpa using this), this]
        simp
    · have c : code (a, b) = 10 * a + b := rfl
      rw [decide_eq_true za, c, decide_eq_true (by omega : 10 * a + b ≠ 0)]
      show some a = some (val (10 * a + b))
      unfold val
      have : (10 * a + b) / 10 = a := by omega
      rw [this, if_pos za]
theorem prs_codes : ∀ {k n : Nat} {R : List (List Int)}, n ≤ 6 → (∀ r ∈ R, Can n r) → ((prs k R).map code).Pairwise (· ≤ ·)
  | _, _, [], _, _ => by simp [prs]
  | k, n, r :: R, n6, h => by
    have ih := prs_codes (k := k + 1) (R := R) n6 fun x hx => h x (by simp [hx])
    have cr := h r (by simp)
    show ((r.map (fun x => ((k : Int), x)) ++ prs (k + 1) R).map code).Pairwise _
    rw [List.map_append, List.pairwise_append]
    refine ⟨?_, ih, fun x hx y hy => ?_⟩
    · rw [List.map_map, List.pairwise_map]
      have ss : r.Pairwise (· ≤ ·) := by
        rw [← show asc r n = r from cr]
        unfold asc
        rw [List.pairwise_map]
        refine List.Pairwise.filter _ ((List.pairwise_lt_range (n := n)).imp fun h => ?_)
        omega
      refine ss.imp fun {a b} hab => ?_
      show 10 * (k : Int) + a ≤ 10 * (k : Int) + b
      omega
    · obtain ⟨p, hp, rfl⟩ := List.mem_map.mp hx
      obtain ⟨z, hz, rfl⟩ := List.mem_map.mp hp
      obtain ⟨p2, hp2, rfl⟩ := List.mem_map.mp hy
      obtain ⟨j, hj, e1, e2⟩ := prs_mem.mp hp2
      have b1 := cr.mem hz
      have b2 := (h _ (by exact List.mem_cons_of_mem _ (List.mem_of_getElem? (at_row hj)))).mem e2
      unfold code
      show 10 * (k : Int) + z ≤ 10 * p2.1 + p2.2
      rw [e1]
      omega
theorem bey_len : ∀ L : List Int, (bey L).length ≤ 2 * L.length
  | [] => Nat.zero_le _
  | c :: L => by
    have ih := bey_len L
    have h : (part c).length ≤ 2 := List.length_filter_le _ _
    show (part c ++ bey L).length ≤ _
    rw [List.length_append, List.length_cons]
    omega
def dueOf : List Int → List V
  | [] => []
  | x :: _ => [.str "word", .int x, .bl true]
theorem due_flat : ∀ L : List Int, (dueOf L).all flatOk = true
  | [] => rfl
  | x :: _ => by
    have h : flatOk (.str "word") = true := by decide +kernel
    show (flatOk (.str "word") && (flatOk (.int x) && (flatOk (.bl true) && true))) = true
    rw [h]
    rfl
theorem eqF' {K : PySem.W.Frag} {H : Hp} {p q : Addr} {xs : List V} {Z : VK} (hp : H p = some (.lst xs)) (hq : H q = some (.lst xs)) (ok : xs.all flatOk = true) (h : Z (.bl true) H) : rEqD K (.ref p) (.ref q) H Z := by
  refine ⟨_, _, .lst (SqL.of hp) (dpAllF ok), .lst (SqL.of hq) (dpAllF ok), shF ok, shF ok, ?_⟩
  rw [SeqAt.eqv_refl _ (SeqAt.canLay_of_shaped (shF ok))]
  exact h
theorem prs_len6 : ∀ {k : Nat} (R : List (List Int)) (r6 : ∀ r ∈ R, r.length ≤ 6), (prs k R).length ≤ 6 * R.length
  | _, [], _ => Nat.zero_le _
  | k, r :: R, h => by
    have ih := prs_len6 (k := k + 1) R fun x hx => h x (by simp [hx])
    have h1 := h r (by simp)
    show (r.map (fun x => ((k : Int), x)) ++ prs (k + 1) R).length ≤ _
    rw [List.length_append, List.length_map, List.length_cons]
    omega
abbrev rInt1 : List V → Hp → VK → Prop := fun xs H Q => (∃ i, xs = [.int i] ∧ Q (.int i) H) ∨ ∃ k, xs = [.bl k] ∧ Q (.int (if k then 1 else 0)) H
def spSmaller (C : Addr) : Sp := fun vs H Q _ => ∃ (p l : Addr) (n : Nat) (R : List (List Int)) (ls : List V) (P : List (Int × Int)), vs = [.ref p, .ref l] ∧ Tab C H p R ∧ CanR n R ∧ n ≤ 6 ∧ H l = some (.lst ls) ∧ PairsT H ls P ∧ P.length ≤ 40 ∧ (∀ x, x ∈ P ↔ x ∈ prs 0 R) ∧ ∀ H', Same H H' → Q (.bl true) H'
section
variable {P : Program} {w : World} {K : PySem.W.Frag} {mg : Str → Option Value} {base : Heap}
abbrev NSm : List Str := ["_law_table", "_law_pairs_here", "_law_beyond", "_law_code", "_law_due", "_law_pair", "_law_part"]
theorem scSm : FnScope NSm ["_law_table", "_law_pairs_here"] (defScope sSmaller) := ⟨rfl, rfl, rfl, by decide +kernel, rfl, by decide +kernel, by decide +kernel⟩
theorem ok_smaller {f e C : Addr} {fd fde : FuncData} {r : Errs} (F : Fun K "_law_smaller" "_law_smaller" sSmaller f fd) (S : Gs K mg C) (O : Mk3 K mg C) (mSo : mg "sorted" = none) (FME : Fun K "_law_made_error" "_law_made_error" sMadeErr e fde) (mME : mg "_law_made_error" = some (.ref e)) (bME : Binds K fde ["_law_which", "_law_n", "_law_pairs_here"] [])
    (h : Hk P K mg r) (RS : ErX P K mg r "BadSize" ["size"] r.c0) (RU : ErX P K mg r "UnknownWord" ["word"] r.c2)
    (x00 : PySem.W.exmOne K (.ref r.c0) (.ref r.c0) = some true) (x20 : PySem.W.exmOne K (.ref r.c2) (.ref r.c0) = some false) (x22 : PySem.W.exmOne K (.ref r.c2) (.ref r.c2) = some true) : FnOk P w K mg base CX0 9 f fd ["_law_table", "_law_pairs_here"] (spSmaller C) := by
  have B := S.B
  refine F.ok scSm (fun vs H Q E h => ?_) (fun cdv A outer s H vs Q E hr hh => ?_)
  · obtain ⟨p, l, n, R, ls, P', rfl, _⟩ := h
    rfl
  · obtain ⟨p, l, n, R, ls, P', rfl, hT, cR, n6, hl, hP, p40, mem, k⟩ := hh
    have hr8 : Room 8 _ := hr
    refine ⟨_, pss_cons (ps_set (i := 2) scSm.nd rfl (Or.inl rfl) (pe_lst pa_nil))
      (pss_cons (ps_for PassesOwn.never rfl (pi_list (pe_callB cr_sortedI (by rfl) mSo (by decide +kernel) (pa_cons (pe_lc (own := [("_law_pair", 5)]) (g := (gName 5)) (tt := tYes) (te := (tCB rInt1 (tCons (tOp (rI0 fun i j => .int (i + j)) (tOp (rI CMul fun i j => .int (i * j)) (tC (.int 10)) (tOp (rIxT K) (tVar 5) (tC (.int 0)))) (tOp (rIxT K) (tVar 5) (tC (.int 1)))) tNil))) rfl scSm.nd (pi_list (pv 1)) (blkOk_by (own := [("_law_pair", 5)]) (N := NSm) (sc := defScope sSmaller) (by decide +kernel)) (fun _ _ _ _ _ => (pg_name (i := 5) scSm.nd rfl (Or.inl rfl))) (fun _ _ _ _ _ => pts_nil) (fun _ _ _ _ _ => (pe_callTy call_int1 (by rfl) B.int (by decide +kernel) (pa_cons (pe_op op_add (pe_op op_mul pe_int (pe_ix ix_tup (pv 5) pe_int (fun _ _ => rfl))) (pe_ix ix_tup (pv 5) pe_int (fun _ _ => rfl))) pa_nil)))) pa_nil))) (pg_name (i := 3) scSm.nd rfl (Or.inl rfl)) (pss_one (ps_set (i := 2) scSm.nd rfl (Or.inl rfl) (pe_op op_cat (pv 2) (pe_lc (own := [("_law_part", 6)]) (g := (gName 6)) (tt := (tTest (tOp (rI0 fun i j => .bl (decide (j < i))) (tVar 6) (tC (.int 0))))) (te := (tVar 6)) rfl scSm.nd (pi_list (pe_lst (pa_cons (pe_op op_fdiv (pv 3) pe_int) (pa_cons (pe_op op_sub (pv 3) (pe_op op_mul (pe_op op_fdiv (pv 3) pe_int) pe_int)) pa_nil)))) (blkOk_by (own := [("_law_part", 6)]) (N := NSm) (sc := defScope sSmaller) (by decide +kernel)) (fun _ _ _ _ _ => (pg_name (i := 6) scSm.nd rfl (Or.inl rfl))) (fun _ _ _ _ _ => pts_one (pt_cmpR op_gt (pv 6) pe_int (nomark _))) (fun _ _ _ _ _ => (pv 6)))))))
      (pss_cons (ps_set (i := 4) scSm.nd rfl (Or.inl rfl) (pe_lst pa_nil))
      (C8.pss_cut (ps_if (pt_cmpR (op_neD hr.units) (pv 2) (pe_lst pa_nil) (nomark _)) (pss_one (ps_set (i := 4) scSm.nd rfl (Or.inl rfl) (pe_lst (pa_cons pe_str (pa_cons (pe_ix ix_list (pv 2) pe_int (fun _ _ => rfl)) (pa_cons pe_bl pa_nil)))))) pss_nil)
      (pss_one (ps_ret (pe_cmpR (op_eqD hr.units) (pe_call (ok_ME FME S O h RS RU x00 x20 x22) hr8 rfl mME FME.kp bME .nil pass0 (pa_cons pe_int (pa_cons pe_int (pa_cons (pv 0) pa_nil)))) (pv 4) (nomark _))))))), ?_⟩
    have ws : ∀ x ∈ P', 0 ≤ x.1 ∧ x.1 < 6 ∧ 0 ≤ x.2 ∧ x.2 < 6 := fun x hx => by
      obtain ⟨j, hj, e1, e2⟩ := prs_mem.mp ((mem x).mp hx)
      rw [cR.1] at hj
      have b := (cR.row hj).mem e2
      rw [e1]
      omega
    refine ⟨Nat.zero_le _, fun d hd => ?_⟩
    have s0 := Same.new (H := H) (o := .lst []) hd
    refine ⟨_, rfl, l, rfl, ⟨_, SqL.of (s0 _ _ hl)⟩, fun D hD => ?_⟩
    refine lc_list (K := K) (a := l) (xs := ls) (fun i H' => Same (upd H d (.lst [])) H' ∧ H' D = some (.lst (vI ((P'.map code).take i)))) ⟨Same.new hD, upd_same⟩ (fun i H' _ ⟨s, _⟩ => SqL.of (s _ _ (s0 _ _ hl))) ?_ ?_
    · rintro i y H1 hi ⟨s1, hd1⟩
      obtain ⟨x, hx, u, rfl, hu⟩ := L2.Paired.at hP hi
      have hu1 := s1 _ _ (s0 _ _ hu)
      have bx := ws x (List.mem_of_getElem? hx)
      refine ⟨rfl, yesT (iteT ?_)⟩
      refine ⟨_, rfl, u, _, 0, _, rfl, rfl, SqT.of hu1, rfl, ?_⟩
      refine ⟨_, _, rfl, rfl, .inl ⟨by decide, by decide⟩, ?_⟩
      refine ⟨_, rfl, u, _, 1, _, rfl, rfl, SqT.of hu1, rfl, ?_⟩
      refine ⟨_, _, rfl, rfl, .inl ⟨_, rfl, _, hd1, ?_, Same.updN s1 hD, ?_⟩⟩
      · rw [vI_len]
        exact Nat.lt_of_le_of_lt (Nat.le_trans (List.length_take_le' _ _) (by rw [List.length_map]; exact p40)) (by decide)
      · rw [upd_same, take_more (show (P'.map code)[i]? = some (code x) by rw [List.getElem?_map, hx]; rfl)]
        unfold vI
        rw [List.map_append]
        rfl
    rintro H1 ⟨s1, hd1⟩
    rw [Paired.length hP, List.take_of_length_le (by rw [List.length_map]; exact Nat.le_refl _)] at hd1
    refine ⟨D, P'.map code, rfl, SqL.of hd1, fun ns so perm pw so0 => ?_⟩
    have s01 := s0.trans s1
    have s2 := Same.new (H := H1) (o := .lst (ns.map V.int)) so0
    have hso : upd H1 so (.lst (ns.map V.int)) so = some (.lst (vI ns)) := upd_same
    have d0H : H d = none := hd
    have hd2 := s2 _ _ (s1 _ _ (show upd H d (.lst []) d = some (.lst (vI [])) from upd_same))
    have s02 := s01.trans s2
    generalize upd H1 so (.lst (ns.map V.int)) = H2 at s2 hso hd2 s02
    have nl : ns.length ≤ 40 := by rw [perm.length_eq, List.length_map]; exact p40
    have nb : ∀ c ∈ ns, 0 ≤ c ∧ c < 60 := fun c hc => by
      obtain ⟨x, hx, rfl⟩ := List.mem_map.mp (perm.mem_iff.mp hc)
      have := ws x hx
      unfold code
      omega
    refine ⟨so, rfl, ⟨_, SqL.of hso⟩, ?_⟩
    refine for_list (K := K) (a := so) (xs := vI ns) (fun i σ H' => (∃ d' v3, σ = [some (.ref p), some (.ref l), some (.ref d'), v3, none, none, none] ∧ H' d' = some (.lst (vI (bey (ns.take i))))) ∧ Same H2 H')
      ⟨⟨d, none, rfl, hd2⟩, Same.refl _⟩ (fun i σ H' _ ⟨_, s⟩ => SqL.of (s _ _ hso)) ?_ ?_
    · rintro i y σ H3 hi ⟨⟨d', v3, rfl, hd'⟩, s3⟩
      obtain ⟨c, hc, rfl⟩ := vI_at hi
      have cb := nb c (List.mem_of_getElem? hc)
      refine ⟨_, rfl, ?_⟩
      refine ⟨_, rfl, _, _, rfl, rfl, ⟨by decide, by decide⟩, _, rfl, _, rfl, _, _, rfl, rfl, ⟨by decide, by decide⟩, _, _, rfl, rfl, .inr ⟨by decide, by decide⟩, _, _, rfl, rfl, by show 2 ≤ sizeLine; decide, fun t ht => ?_⟩
      have s4 := Same.new (H := H3) (o := .lst [.int (c / 10), .int (c - c / 10 * 10)]) ht
      have ht4 : upd H3 t (.lst [.int (c / 10), .int (c - c / 10 * 10)]) t = some (.lst (vI [c / 10, c - c / 10 * 10])) := upd_same
      have hd4 := s4 _ _ hd'
      have s34 := s3.trans s4
      generalize upd H3 t (.lst [.int (c / 10), .int (c - c / 10 * 10)]) = H4 at s4 ht4 hd4 s34
      refine ⟨t, rfl, ⟨_, SqL.of ht4⟩, fun D2 hD2 => ?_⟩
      refine lc_list (K := K) (a := t) (xs := vI [c / 10, c - c / 10 * 10]) (fun e H' => Same H4 H' ∧ H' D2 = some (.lst (vI (([c / 10, c - c / 10 * 10].take e).filter fun x => decide (0 < x))))) ⟨Same.new hD2, upd_same⟩ (fun e H' _ ⟨s, _⟩ => SqL.of (s _ _ ht4)) ?_ ?_
      · rintro e y H5 he ⟨s5, hd5⟩
        obtain ⟨x, hx, rfl⟩ := vI_at he
        refine ⟨rfl, ?_⟩
        refine ⟨_, rfl, _, _, rfl, rfl, _, rfl, ?_⟩
        by_cases z : 0 < x
        · rw [decide_eq_true z]
          refine iteT ⟨_, rfl, _, hd5, ?_, Same.updN s5 hD2, ?_⟩
          · rw [vI_len]
            exact Nat.lt_of_le_of_lt (Nat.le_trans (List.length_filter_le _ _) (Nat.le_trans (List.length_take_le' _ _) (by show 2 ≤ 2; decide))) (by decide)
          · rw [upd_same, take_more hx, List.filter_append, show [x].filter (fun x => decide (0 < x)) = [x] by simp [z]]
            unfold vI
            rw [List.map_append]
            rfl
        · rw [decide_eq_false z]
          refine iteF ⟨s5, ?_⟩
          rw [take_more hx, List.filter_append, show [x].filter (fun x => decide (0 < x)) = [] by simp [z], List.append_nil]
          exact hd5
      rintro H5 ⟨s5, hd5⟩
      rw [show (vI [c / 10, c - c / 10 * 10]).length = [c / 10, c - c / 10 * 10].length from vI_len _, List.take_length] at hd5
      refine ⟨d', D2, _, _, rfl, rfl, s5 _ _ hd4, hd5, ?_, fun q hq => ?_⟩
      · rw [vI_len, vI_len]
        have h1 : (bey (ns.take i)).length ≤ 2 * (ns.take i).length := bey_len _
        have h2 := List.length_take_le' i ns
        have h3 : ([c / 10, c - c / 10 * 10].filter fun x => decide (0 < x)).length ≤ 2 := List.length_filter_le _ _
        exact Nat.le_trans (by omega : _ ≤ 90) (by decide)
      · refine ⟨⟨q, _, rfl, ?_⟩, (s34.trans s5).trans (Same.new hq)⟩
        rw [upd_same, vI_app, take_more hc]
        show _ = some (HO.lst (vI ((ns.take i ++ [c]).flatMap part)))
        rw [List.flatMap_append]
        simp [bey, part]
    · rintro σ H3 ⟨⟨d', v3, rfl, hd'⟩, s3⟩
      rw [show (vI ns).length = ns.length from vI_len _, List.take_length] at hd'
      have s03 := s02.trans s3
      refine ⟨Nat.zero_le _, fun u hu => ?_⟩
      have s4 := Same.new (H := H3) (o := .lst []) hu
      have hu4 : upd H3 u (.lst []) u = some (.lst []) := upd_same
      have hd4 := s4 _ _ hd'
      have s04 := s03.trans s4
      generalize upd H3 u (.lst []) = H4 at s4 hu4 hd4 s04
      -- due
      refine ⟨fun σ' H' => ∃ v4, σ' = [some (.ref p), some (.ref l), some (.ref d'), v3, some (.ref v4), none, none] ∧ Same H4 H' ∧ H' v4 = some (.lst (dueOf (bey ns))), ?_, ?_⟩
      · refine ⟨_, rfl, Nat.zero_le _, fun q hq => ⟨_, _, dpI (SqL.of ((Same.new hq) _ _ hd4)), dpI (a := []) (SqL.of upd_same), shI _, shI [], _, rfl, ?_⟩⟩
        rw [eqI]
        have sq := Same.new (H := H4) (o := .lst []) hq
        have hd5 := sq _ _ hd4
        have hu5 := sq _ _ hu4
        generalize upd H4 q (.lst []) = H5 at sq hd5 hu5
        cases e : bey ns with
        | nil =>
          rw [decide_eq_true rfl]
          exact iteF ⟨u, rfl, sq, hu5⟩
        | cons x xs =>
          rw [e] at hd5
          rw [decide_eq_false (by intro z; cases z)]
          refine iteT ⟨_, rfl, d', _, _, _, rfl, rfl, SqL.of hd5, atI_nat (xs := vI (x :: xs)) (j := 0) rfl, by show 3 ≤ sizeLine; decide, fun u2 hu2 => ?_⟩
          exact ⟨u2, rfl, sq.trans (Same.new hu2), upd_same⟩
      rintro σ' H5 ⟨v4, rfl, s5, hv4⟩
      have s05 := s04.trans s5
      have fbe : fb 1 (prs 0 R) = (bey ns).head? := by
        have small : ∀ x ∈ prs 0 R, 0 ≤ x.1 ∧ 0 ≤ x.2 ∧ x.2 < 10 := fun x hx => by
          have := ws x ((mem x).mpr hx)
          omega
        rw [fb_code small, bey_head (fun c hc => (nb c hc).1)]
        congr 1
        refine find_sorted (prs_codes n6 cR.2) pw fun c => ?_
        rw [perm.mem_iff]
        constructor
        · intro hc
          obtain ⟨x, hx, rfl⟩ := List.mem_map.mp hc
          exact List.mem_map.mpr ⟨x, (mem x).mpr hx, rfl⟩
        · intro hc
          obtain ⟨x, hx, rfl⟩ := List.mem_map.mp hc
          exact List.mem_map.mpr ⟨x, (mem x).mp hx, rfl⟩
      obtain ⟨dx, tr, tp, ts, qs, t1, t2, t3, t4, t5, t6, _⟩ := hT.same s05
      have pl : (prs 0 R).length ≤ 100 := by
        have := prs_len6 (k := 0) R (fun r hr => by have := (cR.2 r hr).len; omega)
        rw [cR.1] at this
        have : 6 * n ≤ 36 := by omega
        omega
      have fin : ∀ {H6 : Hp} {q : Addr}, Same H5 H6 → H6 q = some (.lst (dueOf (bey ns))) → rEqD K (.ref q) (.ref v4) H6 Q := fun s6 hq6 => eqF' hq6 (s6 _ _ hv4) (due_flat _) (k _ (s05.trans s6))
      refine ⟨_, rfl, 3, 1, .ref p, rfl, by decide, .inr (.inr ⟨1, p, prs 0 R, rfl, rfl, by decide, by decide, rfl, .inr ⟨dx, tr, tp, R.length, qs, t1, t5, t6⟩, pl, ?_⟩)⟩
      rw [fbe]
      cases e : bey ns with
      | nil => exact .inl ⟨rfl, fun H6 q s6 _ hq6 => ⟨_, rfl, fin s6 (by rw [e]; exact hq6)⟩⟩
      | cons x xs =>
        have xb : x.natAbs < 2 ^ 1000 := by
          have hx : x ∈ bey ns := by rw [e]; simp
          unfold bey part at hx
          obtain ⟨c, hc, hx⟩ := List.mem_flatMap.mp hx
          have cb := nb c hc
          have hx := (List.mem_filter.mp hx).1
          have : x.natAbs < 100 := by
            rcases List.mem_cons.mp hx with rfl | hx
            · omega
            · rw [List.mem_singleton.mp hx]; omega
          exact Nat.lt_trans this (by decide)
        exact .inr ⟨x, rfl, Pr.int xb, fun H6 q s6 _ hq6 => ⟨_, rfl, fin s6 (by rw [e]; exact hq6)⟩⟩
end
end Toy
namespace Toy
open PySem PySem.Spec PyProof.Rows L2
theorem dpP {K : PySem.W.Frag} {H : Hp} {t : Addr} {p : Int × Int} (h : H t = some (.tup (vP p))) : Dp K H (.ref t) (.tuple [.int p.1, .int p.2]) := .tup (SqT.of h) (.cons (.int _) (.cons (.int _) .nil))
def dPs (P : List (Int × Int)) : List PyData := P.map fun p => .tuple [.int p.1, .int p.2]
theorem dpAllP {K : PySem.W.Frag} {H : Hp} : ∀ {qs : List V} {P : List (Int × Int)}, PairsT H qs P → DpAll K H qs (dPs P)
  | _, _, .nil => .nil
  | _, _, .cons ⟨t, e, q⟩ r => .cons (by rw [e]; exact dpP q) (dpAllP r)
theorem lay_dPs : ∀ P : List (Int × Int), PyData.canLayAll0 (dPs P) = true
  | [] => rfl
  | p :: P => by
    show (PyData.canLay0 (.tuple [.int p.1, .int p.2]) && PyData.canLayAll0 (dPs P)) = true
    rw [lay_dPs P]
    rfl
theorem dep_dPs : ∀ P : List (Int × Int), PyData.depthAll (dPs P) ≤ 1
  | [] => by decide
  | p :: P => by
    have ih := dep_dPs P
    show max (PyData.depthAll [.int p.1, .int p.2] + 1) (PyData.depthAll (dPs P)) ≤ 1
    have : PyData.depthAll [PyData.int p.1, PyData.int p.2] = 0 := by simp [PyData.depthAll, PyData.depth]
    rw [this]
    omega
theorem shPs (P : List (Int × Int)) : SeqAt.shaped (.tuple (dPs P)) = true ∧ SeqAt.shaped (.list (dPs P)) = true := by
  have := dep_dPs P
  constructor
  · show (PyData.canLayAll0 (dPs P) && decide (PyData.depthAll (dPs P) + 1 ≤ 64)) = true
    rw [lay_dPs, decide_eq_true (by omega)]
    rfl
  · show (PyData.canLayAll0 (dPs P) && decide (PyData.depthAll (dPs P) + 1 ≤ 64)) = true
    rw [lay_dPs, decide_eq_true (by omega)]
    rfl
end Toy
namespace Toy
open PySem PySem.Spec PyProof.Rows L2
theorem PairsT.off {H : Hp} {b : Addr} {o : List V} {qs : List V} {P : List (Int × Int)} (hb : H b = some (.lst o)) (h : PairsT H qs P) : PairsT (Toy.off b H) qs P :=
  L2.Paired.mapP h fun _ _ ⟨t, e, q⟩ => ⟨t, e, by rw [off_ne (ne_of q hb (fun z => nomatch z))]; exact q⟩
theorem Paired.rev {α β : Type} {F : α → β → Prop} : ∀ {xs : List α} {ys : List β}, Paired F xs ys → Paired F xs.reverse ys.reverse
  | _, _, .nil => .nil
  | _, _, .cons r t => by
    rw [List.reverse_cons, List.reverse_cons]
    exact L2.Paired.snoc r (Paired.rev t)
/-- the list of pairs in any order, one of them perhaps twice -/
def spMixedQ : Sp := fun vs H Q _ => ∃ (b c l : Addr) (ls : List V) (B : List (Int × Int)), vs = [.ref b, .ref l] ∧ BoxAt H b c ∧ off b H l = some (.lst ls) ∧ PairsT (off b H) ls B ∧ B.length ≤ 36 ∧
  ∀ H' g gs B', BoxAt H' b c → Same (off b H) (off b H') → off b H g = none → off b H' g = some (.lst gs) → PairsT (off b H') gs B' → B'.length ≤ 37 → (∀ x, x ∈ B' ↔ x ∈ B) → Q (.ref g) H'
section
variable {P : Program} {w : World} {K : PySem.W.Frag} {mg : Str → Option Value} {base : Heap}
theorem scMixed : FnScope ["_law_box_here", "_law_words_here", "_law_given"] ["_law_box_here", "_law_words_here"] (defScope sMixed) := ⟨rfl, rfl, rfl, by decide +kernel, rfl, by decide +kernel, by decide +kernel⟩
theorem ok_mixedQ {f : Addr} {fd : FuncData} (F : Fun K "_law_mixed" "_law_mixed" sMixed f fd) (S : Lt K mg) : FnOk P w K mg base CX0 2 f fd ["_law_box_here", "_law_words_here"] spMixedQ := by
  obtain ⟨fT, fdT, FT, mT, bT⟩ := S.take
  have B := S.B
  refine F.ok scMixed (fun vs H Q E h => ?_) (fun cdv A outer s H vs Q E hr h => ?_)
  · obtain ⟨b, c, l, ls, Bs, rfl, _⟩ := h
    rfl
  · obtain ⟨b, c, l, ls, Bs, rfl, hb, hl, hP, b7, k⟩ := h
    have hr1 : Room 1 _ := hr.mono (by decide)
    refine ⟨_, pss_cons (ps_set (i := 2) scMixed.nd rfl (Or.inl rfl) (pe_callTy call_list_of (by rfl) B.list (by decide +kernel) (pa_cons (pv 1) pa_nil)))
      (C8.pss_cut (ps_if (pt_cmpR op_eq (pe_call (ok_take FT B) hr1 rfl mT FT.kp bT .nil pass0 (pa_cons (pv 0) (pa_cons pe_int pa_nil))) pe_int (nomark _)) (pss_one (ps_expr (pe_bm0 PySem.F.plainAttrs_list PySem.F.slot_list_reverse PySem.F.type_list_reverse mt_reverse (pv 2)))) pss_nil)
      (pss_cons (ps_if (PW.pt (pw_and (pt_cmpR (op_neD hr.units) (pv 2) (pe_lst pa_nil) (nomark _)) (pw_and1 (pt_cmpR op_eq (pe_call (ok_take FT B) hr1 rfl mT FT.kp bT .nil pass0 (pa_cons (pv 0) (pa_cons pe_int pa_nil))) pe_int (nomark _))))) (pss_one (ps_expr (pe_bm PySem.F.plainAttrs_list PySem.F.slot_list_append PySem.F.type_list_append mt_append (pv 2) (pa_cons (pe_ix ix_list (pv 2) (pe_call (ok_take FT B) hr1 rfl mT FT.kp bT .nil pass0 (pa_cons (pv 0) (pa_cons (pe_callB call_len_seq (by rfl) B.len PySem.boot_len (pa_cons (pv 2) pa_nil)) pa_nil))) (fun _ _ => rfl)) pa_nil)))) pss_nil) (pss_one (ps_ret (pv 2))))), ?_⟩
    refine ⟨_, rfl, l, _, rfl, .inl (SqL.of (off_le _ _ hl)), fun g hg => ?_⟩
    have gb := hb.ne hg
    have gc := hb.nec hg
    have g0 : off b H g = none := off_free hg
    refine ⟨fun σ' H' => ∃ gs Bg, σ' = [some (.ref b), some (.ref l), some (.ref g)] ∧ BoxAt H' b c ∧ Same (off b H) (off b H') ∧ off b H' g = some (.lst gs) ∧ PairsT (off b H') gs Bg ∧ Bg.length ≤ 36 ∧ (∀ x, x ∈ Bg ↔ x ∈ Bs), ?_, ?_⟩
    · have s0 := Same.off (b := b) (Same.new (H := H) (o := .lst ls) hg)
      refine ⟨_, rfl, b, c, 2, rfl, hb.same (Same.new hg), by decide, by decide, fun r H1 hr1 hb1 s1 => ?_⟩
      have hg1 : off b H1 g = some (.lst ls) := s1 _ _ (by rw [off_ne gb]; exact upd_same)
      have hP1 := PairsT.same (s0.trans s1) hP
      refine ⟨rfl, _, rfl, ?_⟩
      refine ite2 (fun _ => ?_) (fun _ => ⟨ls, Bs, rfl, hb1, s0.trans s1, hg1, hP1, b7, fun _ => Iff.rfl⟩)
      refine ⟨_, rfl, .inl ⟨rfl, _, SqL.of (off_le _ _ hg1)⟩, g, _, rfl, rfl, off_le _ _ hg1, ?_⟩
      refine ⟨ls.reverse, Bs.reverse, rfl, hb1.upd gb gc, ?_, ?_, ?_, by rw [List.length_reverse]; exact b7, fun x => List.mem_reverse⟩
      · rw [off_updN gb]
        exact Same.updN (s0.trans s1) g0
      · rw [off_updN gb, upd_same]
      · rw [off_updN gb]
        exact PairsT.updL (Paired.rev hP1) hg1
    · rintro σ' H1 ⟨gs, Bg, rfl, hb1, s1, hg1, hPg, el, mem⟩
      refine ⟨_, rfl, Nat.zero_le _, fun e he => ?_⟩
      have s2 := Same.new (H := H1) (o := .lst []) he
      have so := Same.off (b := b) s2
      have hgo := so _ _ hg1
      have hPo := PairsT.same so hPg
      have he2 : upd H1 e (.lst []) e = some (.lst []) := upd_same
      have d1 : Dp K (upd H1 e (.lst [])) (.ref g) (.list (dPs Bg)) := .lst (SqL.of (off_le _ _ hgo)) (dpAllP (PairsT.same off_le hPo))
      have d2 : Dp K (upd H1 e (.lst [])) (.ref e) (.list (dPs [])) := .lst (SqL.of he2) .nil
      refine ⟨_, _, d1, d2, (shPs Bg).2, (shPs []).2, _, rfl, ?_⟩
      have so2 := s1.trans so
      by_cases h0 : Bg = []
      · subst h0
        refine iteF (iteF ?_)
        exact ⟨_, rfl, k _ g gs [] (hb1.same s2) so2 g0 hgo hPo (by decide) mem⟩
      · have ne : PyData.eqv (.list (dPs Bg)) (.list (dPs [])) = false := by
          cases Bg with
          | nil => exact absurd rfl h0
          | cons x r => rfl
        rw [ne]
        refine iteT ?_
        refine ⟨_, rfl, b, c, 3, rfl, hb1.same s2, by decide, by decide, fun r H3 hr3 hb3 s3 => ?_⟩
        have hg3 := s3 _ _ hgo
        have hP3 := PairsT.same s3 hPo
        refine ⟨rfl, _, rfl, ?_⟩
        refine ite2 (fun _ => ?_) (fun _ => ⟨_, rfl, k _ g gs Bg hb3 (so2.trans s3) g0 hg3 hP3 (by omega) mem⟩)
        have hl0 : 0 < Bg.length := List.length_pos_iff.mpr h0
        have lg : gs.length = Bg.length := Paired.length hPg
        refine ⟨_, rfl, .inl ⟨rfl, _, SqL.of (off_le _ _ hg3)⟩, _, rfl, _, rfl, _, rfl, g, _, rfl, .inl (SqL.of (off_le _ _ hg3)), ?_⟩
        refine ⟨b, c, (gs.length : Int), rfl, hb3, by omega, by omega, fun j H4 hj hb4 s4 => ?_⟩
        have hg4 := s4 _ _ hg3
        have hP4 := PairsT.same s4 hP3
        obtain ⟨x, hx⟩ : ∃ x, Bg[j]? = some x := ⟨_, List.getElem?_eq_getElem (by omega)⟩
        obtain ⟨v, hv, t, rfl, ht⟩ := L2.Paired.at2 hP4 hx
        refine ⟨g, _, _, _, rfl, rfl, SqL.of (off_le _ _ hg4), atI_nat hv, g, _, _, rfl, rfl, off_le _ _ hg4, ?_, ?_⟩
        · exact Nat.lt_of_le_of_lt (by omega : gs.length ≤ 36) (by decide)
        · refine ⟨_, rfl, k _ g (gs ++ [.ref t]) (Bg ++ [x]) (hb4.upd gb gc) ?_ g0 ?_ ?_ ?_ (fun y => ⟨fun hy => ?_, fun hy => List.mem_append_left _ ((mem y).mpr hy)⟩)⟩
          · rw [off_updN gb]
            exact Same.updN (so2.trans (s3.trans s4)) g0
          · rw [off_updN gb, upd_same]
          · rw [off_updN gb]
            exact PairsT.updL (L2.Paired.snoc ⟨t, rfl, ht⟩ hP4) hg4
          · rw [List.length_append]
            show Bg.length + 1 ≤ 37
            omega
          · rcases List.mem_append.mp hy with hy | hy
            · exact (mem y).mp hy
            · rw [List.mem_singleton.mp hy]; exact (mem x).mp (List.mem_of_getElem? hx)
end
end Toy
namespace Toy
open PySem PySem.Spec PyProof.Rows L2
abbrev sPairsL : Stmt := top 43
def spPairsL : Sp := fun vs H Q _ => ∃ (l : Addr) (ls : List V) (R : List (List Int)), vs = [.ref l] ∧ H l = some (.lst ls) ∧ RowsL H ls R ∧ R.length ≤ 6 ∧ (∀ r ∈ R, r.length ≤ 6) ∧ ∀ H' d ds, Same H H' → H d = none → H' d = some (.lst ds) → PairsT H' ds (prs 0 R) → Q (.ref d) H'
section
variable {P : Program} {w : World} {K : PySem.W.Frag} {mg : Str → Option Value} {base : Heap}
theorem scPairsL : FnScope ["_law_rows_here", "_law_found", "_law_told", "_law_out"] ["_law_rows_here"] (defScope sPairsL) := ⟨rfl, rfl, rfl, by decide +kernel, rfl, by decide +kernel, by decide +kernel⟩
theorem ok_pairsL {f : Addr} {fd : FuncData} (F : Fun K "_law_pairs" "_law_pairs" sPairsL f fd) (B : Bt mg) : FnOk P w K mg base CX0 1 f fd ["_law_rows_here"] spPairsL := by
  refine F.ok scPairsL (fun vs H Q E h => ?_) (fun cdv A outer s H vs Q E hr h => ?_)
  · obtain ⟨l, ls, R, rfl, _⟩ := h
    rfl
  · obtain ⟨l, ls, R, rfl, hl, hR, r6, rr6, k⟩ := h
    refine ⟨_, pss_cons (ps_set (i := 1) scPairsL.nd rfl (Or.inl rfl) (pe_lst pa_nil))
      (pss_cons (ps_for PassesOwn.never rfl (pi_range1 (by rfl) B.range (pa_cons (pe_callB call_len_seq (by rfl) B.len PySem.boot_len (pa_cons (pv 0) pa_nil)) pa_nil)) (pg_name (i := 2) scPairsL.nd rfl (Or.inr rfl))
        (pss_one (ps_set (i := 1) scPairsL.nd rfl (Or.inl rfl) (pe_op op_cat (pv 1) (pe_lc (own := [("_law_out", 3)]) (g := gName 3) (tt := tYes) rfl scPairsL.nd (pi_list (pe_ix ix_list (pv 0) (pv 2) (fun _ _ => rfl))) (blkOk_by (own := [("_law_out", 3)]) (N := ["_law_rows_here", "_law_found", "_law_told", "_law_out"]) (sc := defScope sPairsL) (by decide +kernel))
          (fun _ _ _ _ _ => pg_name (i := 3) scPairsL.nd rfl (Or.inl rfl)) (fun _ _ _ _ _ => pts_nil) (fun _ _ _ _ _ => pe_tup (pa_cons (pv 2) (pa_cons (pv 3) pa_nil))))))))
      (pss_one (ps_ret (pv 1)))), ?_⟩
    have eL : ls.length = R.length := Paired.length hR
    refine ⟨Nat.zero_le _, fun d0 hd0 => ?_⟩
    refine ⟨_, rfl, l, _, rfl, .inl (SqL.of ((Same.new hd0) _ _ hl)), (ls.length : Int), rfl, by omega, by omega, ?_⟩
    have nP6 : ∀ i, (prs 0 (R.take i)).length ≤ 36 := fun i => by
      have h1 := prs_len 0 (R.take i) fun r hr => rr6 r (List.mem_of_mem_take hr)
      have h2 : (R.take i).length ≤ R.length := List.length_take_le' _ _
      omega
    refine for_range (lo := 0) (n := ls.length) (fun i σ H' => Same H H' ∧ ∃ v2 d ds, σ = [some (.ref l), some (.ref d), v2, none] ∧ H d = none ∧ H' d = some (.lst ds) ∧ PairsT H' ds (prs 0 (R.take i)))
      ⟨Same.new hd0, none, d0, [], rfl, hd0, upd_same, .nil⟩ ?_ ?_
    · rintro i σ H1 hi ⟨s1, v2, d, ds, rfl, hd, hd1, hP1⟩
      obtain ⟨r, hr0⟩ : ∃ r, R[i]? = some r := ⟨_, List.getElem?_eq_getElem (by omega)⟩
      have hl1 := s1 _ _ hl
      obtain ⟨u2, g2, t, rfl, q2⟩ := L2.Paired.at2 (RowsL.same s1 hR) hr0
      have r6' := rr6 r (List.mem_of_getElem? hr0)
      refine ⟨_, rfl, _, rfl, _, rfl, l, _, _, _, rfl, rfl, SqL.of hl1, at_of (j := i) (by omega) g2, t, rfl, ⟨_, SqL.of q2⟩, fun D hD => ?_⟩
      have nDd : d ≠ D := ne_of_none hd1 hD
      refine lc_list (K := K) (a := t) (xs := vI r) (fun j H' => Same H1 H' ∧ ∃ es, H' D = some (.lst es) ∧ PairsT H' es ((r.take j).map fun x => ((i : Int), x))) ⟨Same.new hD, [], upd_same, .nil⟩ (fun j H' _ ⟨s, _⟩ => SqL.of (s _ _ q2)) ?_ ?_
      · rintro j y H2 hj ⟨s2, es, he, hE⟩
        obtain ⟨x, hx, rfl⟩ := vI_at hj
        refine ⟨rfl, yesT (iteT ?_)⟩
        refine ⟨_, rfl, _, rfl, (by show 2 ≤ sizeLine; decide), fun u hu => ?_⟩
        have nDu : D ≠ u := ne_of_none he hu
        have s3 := Same.new (H := H2) (o := .tup [.int (0 + (i : Int)), .int x]) hu
        refine ⟨es, s3 _ _ he, ?_, Same.updN (s2.trans s3) hD, es ++ [.ref u], upd_same, ?_⟩
        · rw [Paired.length hE, List.length_map]
          have h2 : (r.take j).length ≤ r.length := List.length_take_le' _ _
          exact Nat.lt_of_le_of_lt (by omega : _ ≤ 6) (by decide)
        · rw [take_more hx, List.map_append]
          refine L2.Paired.snoc ⟨u, rfl, by rw [upd_ne nDu.symm, upd_same]; show some (HO.tup [V.int (0 + (i : Int)), V.int x]) = some (HO.tup [V.int (i : Int), V.int x]); rw [Int.zero_add]⟩ ?_
          exact PairsT.updL (PairsT.same s3 hE) (s3 _ _ he)
      · rintro H2 ⟨s2, es, he, hE⟩
        rw [vI_len, List.take_length] at hE
        have hd2 := s2 _ _ hd1
        have l1 : ds.length ≤ 36 := by rw [Paired.length hP1]; exact nP6 i
        have l2 : es.length ≤ 6 := by rw [Paired.length hE, List.length_map]; exact r6'
        refine ⟨d, D, ds, es, rfl, rfl, hd2, he, Nat.le_trans (by omega : _ ≤ 42) (by decide), fun p hp => ?_⟩
        refine ⟨(s1.trans s2).trans (Same.new hp), _, p, ds ++ es, rfl, (s1.trans s2).free hp, upd_same, ?_⟩
        rw [take_more hr0, prs_snoc]
        have e : (R.take i).length = i := by rw [List.length_take]; omega
        rw [e, Nat.zero_add]
        exact PairsT.same (Same.new hp) (L2.Paired.app (PairsT.same s2 hP1) hE)
    · rintro σ H1 ⟨s1, v2, d, ds, rfl, hd, hd1, hP1⟩
      rw [eL, List.take_length] at hP1
      exact ⟨_, rfl, k H1 d ds s1 hd hd1 hP1⟩
end
end Toy
namespace Toy
open PySem L2
abbrev sFar : Stmt := top 44
/-- an integer that is no word -/
def spFar : Sp := fun vs H Q _ => ∃ (b c : Addr) (n : Nat), vs = [.ref b, .int n] ∧ BoxAt H b c ∧ 1 ≤ n ∧ n ≤ 6 ∧ ∀ (x : Int) H', isW n x = false → x.natAbs ≤ 1000010 → BoxAt H' b c → Same (off b H) (off b H') → Q (.int x) H'
section
variable {P : Program} {w : World} {K : PySem.W.Frag} {mg : Str → Option Value} {base : Heap}
theorem scFar : FnScope ["_law_box_here", "_law_n"] ["_law_box_here", "_law_n"] (defScope sFar) := ⟨rfl, rfl, rfl, by decide +kernel, rfl, by decide +kernel, by decide +kernel⟩
theorem ok_far {f : Addr} {fd : FuncData} (F : Fun K "_law_far" "_law_far" sFar f fd) (S : Lt K mg) : FnOk P w K mg base CX0 2 f fd ["_law_box_here", "_law_n"] spFar := by
  obtain ⟨fT, fdT, FT, mT, bT⟩ := S.take
  refine F.ok scFar (fun vs H Q E h => ?_) (fun cdv A outer s H vs Q E hr h => ?_)
  · obtain ⟨b, c, n, rfl, _⟩ := h
    rfl
  · obtain ⟨b, c, n, rfl, hb, n1, n6, k⟩ := h
    refine ⟨_, pss_cons (ps_if (pt_cmpR op_eq (pe_call (ok_take FT S.B) hr rfl mT FT.kp bT .nil pass0 (pa_cons (pv 0) (pa_cons pe_int pa_nil))) pe_int (nomark _))
        (pss_one (ps_ret (pe_op op_sub (pe_un un_neg pe_int) (pe_call (ok_take FT S.B) hr rfl mT FT.kp bT .nil pass0 (pa_cons (pv 0) (pa_cons (pe_op op_pow pe_int pe_int) pa_nil)))))) pss_nil)
      (pss_one (ps_ret (pe_op op_add (pv 1) (pe_call (ok_take FT S.B) hr rfl mT FT.kp bT .nil pass0 (pa_cons (pv 0) (pa_cons (pe_op op_pow pe_int pe_int) pa_nil)))))), ?_⟩
    have far : ∀ {x : Int}, (x < 0 ∨ (n : Int) ≤ x) → isW n x = false := fun {x} h => by
      unfold isW
      rcases h with h | h
      · rw [decide_eq_false (by omega : ¬ (0 : Int) ≤ x)]; rfl
      · rw [decide_eq_false (by omega : ¬ x < (n : Int)), Bool.and_false]
    refine ⟨_, rfl, b, c, 2, rfl, hb, by decide, by decide, fun r H1 hr1 hb1 s1 => ?_⟩
    refine ⟨rfl, _, rfl, ite2 (fun _ => ?_) (fun _ => ?_)⟩
    · refine ⟨_, rfl, _, rfl, _, _, rfl, rfl, ⟨by decide, by decide, by decide⟩, b, c, _, rfl, hb1, by decide, by decide, fun r2 H2 hr2 hb2 s2 => ?_⟩
      have hr2' : (r2 : Int) < 1000000 := hr2
      exact ⟨_, _, rfl, rfl, k _ H2 (far (by omega)) (by omega) hb2 (s1.trans s2)⟩
    · refine ⟨_, rfl, _, rfl, _, _, rfl, rfl, ⟨by decide, by decide, by decide⟩, b, c, _, rfl, hb1, by decide, by decide, fun r2 H2 hr2 hb2 s2 => ?_⟩
      have hr2' : (r2 : Int) < 1000000 := hr2
      exact ⟨_, _, rfl, rfl, k _ H2 (far (by omega)) (by omega) hb2 (s1.trans s2)⟩
end
end Toy
namespace Toy
open PySem PySem.Spec PyProof.Rows L2
abbrev sLaw : Stmt := top 47
theorem passN {X : Cx} : Passes (L2N.CX X.prog X.w) X E0 := fun _ _ _ _ _ _ _ h => by
  have ⟨_, _, _, _, _, _, _, _, _, _, _, _, z⟩ := h
  exact z.elim
theorem isW_iff {n : Nat} {x : Int} : isW n x = true ↔ 0 ≤ x ∧ x < (n : Int) := by
  unfold isW
  rw [Bool.and_eq_true, decide_eq_true_iff, decide_eq_true_iff]
theorem iteNS {a b : Int} {A B : Prop} (h : a = b) (y : B) : if (!decide (V.int a = V.int b)) = true then A else B := by
  rw [h, decide_eq_true rfl]
  exact iteF y
theorem filt_more {n : Nat} {p : Nat → Bool} : ∀ {k : Nat}, (∀ j, n ≤ j → p j = false) → filt (n + k) p = filt n p
  | 0, _ => rfl
  | k + 1, h => by
    rw [show n + (k + 1) = (n + k) + 1 from rfl, filt_succ, if_neg (by rw [h (n + k) (by omega)]; exact Bool.false_ne_true)]
    exact filt_more h
theorem of_rows {n m : Nat} {R : List (List Int)} {P : List (Int × Int)} (cR : CanR n R) (le : n ≤ m) (mem : ∀ x, x ∈ P ↔ x ∈ prs 0 R) : (ofG m P).map (fun g => asc g m) = R ++ List.replicate (m - n) [] := by
  have ao : ∀ {t : Nat} {j : Nat}, ((j : Int) ∈ outs P t) ↔ (t < n ∧ (j : Int) ∈ row R t) := fun {t j} => by
    unfold outs
    rw [List.mem_map]
    constructor
    · rintro ⟨p, hp, e⟩
      obtain ⟨h1, h2⟩ := List.mem_filter.mp hp
      obtain ⟨i, hi, e1, e2⟩ := prs_mem.mp ((mem p).mp h1)
      have : p.1 = (t : Int) := of_decide_eq_true h2
      have et : i = t := by omega
      subst et
      rw [cR.1] at hi
      exact ⟨hi, by rw [← e]; exact e2⟩
    · rintro ⟨ht, h⟩
      refine ⟨((t : Int), (j : Int)), List.mem_filter.mpr ⟨(mem _).mpr (prs_mem.mpr ⟨t, by rw [cR.1]; exact ht, by simp, h⟩), by simp⟩, rfl⟩
  refine List.ext_getElem? fun t => ?_
  by_cases h : t < m
  · rw [List.getElem?_map, ofG_at h]
    show some (asc (outs P t) m) = _
    by_cases ht : t < n
    · rw [List.getElem?_append_left (by rw [cR.1]; exact ht), at_row (by rw [cR.1]; exact ht)]
      congr 1
      have cr := cR.row ht
      obtain ⟨k, rfl⟩ : ∃ k, m = n + k := ⟨m - n, by omega⟩
      show filt (n + k) (fun i => decide ((i : Int) ∈ outs P t)) = _
      rw [filt_congr (q := fun i => decide ((i : Int) ∈ row R t)) (fun j _ => decide_eq_decide.mpr (by rw [ao]; exact ⟨fun h => h.2, fun h => ⟨ht, h⟩⟩)), filt_more fun j hj => decide_eq_false fun z => by have := cr.mem z; omega]
      exact cr
    · rw [List.getElem?_append_right (by rw [cR.1]; omega), List.getElem?_replicate, if_pos (by rw [cR.1]; omega)]
      congr 1
      show filt m (fun i => decide ((i : Int) ∈ outs P t)) = []
      unfold filt
      rw [List.map_eq_nil_iff, List.filter_eq_nil_iff]
      intro j _ z
      exact ht (ao.mp (of_decide_eq_true z)).1
  · rw [List.getElem?_eq_none (by rw [List.length_map, ofG_len]; omega), List.getElem?_eq_none (by rw [List.length_append, List.length_replicate, cR.1]; omega)]
theorem fb_ok {n m : Nat} {P : List (Int × Int)} (le : n ≤ m) (ws : ∀ x ∈ P, isW n x.1 = true ∧ isW n x.2 = true) : fb m P = none := by
  have up : ∀ {x : Int}, isW n x = true → isW m x = true := fun {x} h => by
    unfold isW at h ⊢
    rw [Bool.and_eq_true, decide_eq_true_iff, decide_eq_true_iff] at h ⊢
    exact ⟨h.1, by omega⟩
  unfold fb flatP
  rw [List.find?_eq_none]
  intro x hx
  obtain ⟨p, hp, hx⟩ := List.mem_flatMap.mp hx
  have := ws p hp
  rcases List.mem_cons.mp hx with rfl | hx
  · rw [up this.1]; exact Bool.false_ne_true
  · rw [List.mem_singleton.mp hx, up this.2]; exact Bool.false_ne_true
theorem fb_mid {n : Nat} {A B : List (Int × Int)} {p : Int × Int} {x : Int} (ws : ∀ y ∈ A, isW n y.1 = true ∧ isW n y.2 = true) (h : [p.1, p.2].find? (fun x => !isW n x) = some x) : fb n (A ++ p :: B) = some x := by
  unfold fb flatP
  have a := fb_ok (Nat.le_refl n) ws
  unfold fb flatP at a
  rw [List.flatMap_append, List.find?_append, a, Option.none_or, List.flatMap_cons, List.find?_append, h]
  rfl
theorem RowsL.avoidNew {H : Hp} {g : Addr} {ls : List V} {R} (h : RowsL H ls R) (n : H g = none) : ∀ v ∈ ls, v ≠ .ref g := fun v hv z => by
  obtain ⟨_, _, t, e, q⟩ := Paired.mem h hv
  rw [z] at e
  cases e
  rw [n] at q
  cases q
theorem takeP {α β : Type} {F : α → β → Prop} : ∀ {xs : List α} {ys : List β} (i : Nat), Paired F xs ys → Paired F (xs.take i) (ys.take i)
  | _, _, _, .nil => by rw [List.take_nil, List.take_nil]; exact .nil
  | _, _, 0, .cons _ _ => .nil
  | _, _, i + 1, .cons r t => .cons r (takeP i t)
theorem dropP {α β : Type} {F : α → β → Prop} : ∀ {xs : List α} {ys : List β} (i : Nat), Paired F xs ys → Paired F (xs.drop i) (ys.drop i)
  | _, _, _, .nil => by rw [List.drop_nil, List.drop_nil]; exact .nil
  | _, _, 0, .cons r t => .cons r t
  | _, _, i + 1, .cons _ t => dropP i t
theorem cut_pairs {H : Hp} {gs : List V} {B : List (Int × Int)} (h : PairsT H gs B) (lo hi : Option Int) : ∃ B1, PairsT H (cutV gs lo hi) B1 ∧ B1.length ≤ B.length ∧ ∀ x ∈ B1, x ∈ B := by
  refine ⟨_, takeP (HT.sIx gs.length gs.length hi - HT.sIx gs.length 0 lo) (dropP (HT.sIx gs.length 0 lo) h), ?_, fun x hx => List.mem_of_mem_drop (List.mem_of_mem_take hx)⟩
  rw [List.length_take, List.length_drop]
  omega
theorem flat3 {x : Int} {y : Bool} (z : Str) (h : flatOk (.str z) = true) : ([.str z, .int x, .bl y] : List V).all flatOk = true := by
  show (flatOk (.str z) && (flatOk (.int x) && (flatOk (.bl y) && true))) = true
  rw [h]
  rfl
theorem fSize : flatOk (.str "size") = true := by decide +kernel
theorem fWord : flatOk (.str "word") = true := by decide +kernel
structure Al (P : Program) (K : PySem.W.Frag) (mg : Str → Option Value) (r : Errs) (C : Addr) : Prop where
  L : Lt K mg
  G : Gs K mg C
  V : Vt K mg C
  M : Mk3 K mg C
  box : ∃ f fd, Fun K "_law_box" "_law_box" sBox f fd ∧ mg "_law_box" = some (.ref f) ∧ Binds K fd ["_law_script"] []
  rowsL : ∃ f fd, Fun K "_law_rows" "_law_rows" sRowsL f fd ∧ mg "_law_rows" = some (.ref f) ∧ Binds K fd ["_law_box_here", "_law_n", "_law_least"] []
  sameRows : ∃ f fd, Fun K "_law_same_rows" "_law_same_rows" sSameR f fd ∧ mg "_law_same_rows" = some (.ref f) ∧ Binds K fd ["_law_n"] []
  pairsL : ∃ f fd, Fun K "_law_pairs" "_law_pairs" sPairsL f fd ∧ mg "_law_pairs" = some (.ref f) ∧ Binds K fd ["_law_rows_here"] []
  mixed : ∃ f fd, Fun K "_law_mixed" "_law_mixed" sMixed f fd ∧ mg "_law_mixed" = some (.ref f) ∧ Binds K fd ["_law_box_here", "_law_words_here"] []
  far : ∃ f fd, Fun K "_law_far" "_law_far" sFar f fd ∧ mg "_law_far" = some (.ref f) ∧ Binds K fd ["_law_box_here", "_law_n"] []
  smaller : ∃ f fd, Fun K "_law_smaller" "_law_smaller" sSmaller f fd ∧ mg "_law_smaller" = some (.ref f) ∧ Binds K fd ["_law_table", "_law_pairs_here"] []
  mE : ∃ f fd, Fun K "_law_made_error" "_law_made_error" sMadeErr f fd ∧ mg "_law_made_error" = some (.ref f) ∧ Binds K fd ["_law_which", "_law_n", "_law_pairs_here"] []
  sameL : ∃ f fd, Fun K "_law_same" "_law_same" sSame f fd ∧ mg "_law_same" = some (.ref f) ∧ Binds K fd ["_law_table", "_law_rows_here"] []
  so : mg "sorted" = none
  H : Hk P K mg r
  RS : ErX P K mg r "BadSize" ["size"] r.c0
  RU : ErX P K mg r "UnknownWord" ["word"] r.c2
  x00 : PySem.W.exmOne K (.ref r.c0) (.ref r.c0) = some true
  x20 : PySem.W.exmOne K (.ref r.c2) (.ref r.c0) = some false
  x22 : PySem.W.exmOne K (.ref r.c2) (.ref r.c2) = some true
section
variable {P : Program} {w : World} {K : PySem.W.Frag} {mg : Str → Option Value} {base : Heap}
abbrev NL : List Str := ["_law_script", "_law_box_here", "_law_n", "_law_rows_here", "_law_pairs_here", "_law_kept", "_law_table", "_law_wrong", "_law_which", "_law_bad", "_law_odd", "_law_at", "_law_spoilt", "_law_k"]
theorem scLaw : FnScope NL ["_law_script"] (defScope sLaw) := ⟨rfl, rfl, rfl, by decide +kernel, rfl, by decide +kernel, by decide +kernel⟩
theorem ok_law {f C : Addr} {fd : FuncData} {r : Errs} (F : Fun K "law" "law" sLaw f fd) (S : Al P K mg r C) : FnOk P w K mg base CX0 10 f fd ["_law_script"] (spLaw K) := by
  obtain ⟨fT, fdT, FT, mT, bT⟩ := S.L.take
  obtain ⟨fN, fdN, FN, MN, bN⟩ := S.M.init
  obtain ⟨fIt, fdIt, FIt, ⟨i1, i2⟩, bIt⟩ := S.M.iter
  obtain ⟨fW, fdW, FW, mW, bW⟩ := S.M.chW
  obtain ⟨f1, fd1, F1, ⟨p1, c1⟩, b1⟩ := S.M.ident
  obtain ⟨f2, fd2, F2, ⟨p2, c2⟩, b2⟩ := S.M.full
  obtain ⟨f3, fd3, F3, ⟨p3, c3⟩, b3⟩ := S.M.empty
  obtain ⟨f4, fd4, F4, ⟨p4, c4⟩, b4⟩ := S.M.of
  obtain ⟨fB, fdB, FB, mB, bB⟩ := S.box
  obtain ⟨fRL, fdRL, FRL, mRL, bRL⟩ := S.rowsL
  obtain ⟨fSR, fdSR, FSR, mSR, bSR⟩ := S.sameRows
  obtain ⟨fPL, fdPL, FPL, mPL, bPL⟩ := S.pairsL
  obtain ⟨fMx, fdMx, FMx, mMx, bMx⟩ := S.mixed
  obtain ⟨fF, fdF, FF, mF, bF⟩ := S.far
  obtain ⟨fSm, fdSm, FSm, mSm, bSm⟩ := S.smaller
  obtain ⟨fME, fdME, FME, mME, bME⟩ := S.mE
  obtain ⟨fS, fdS, FS, mS, bS⟩ := S.sameL
  have B := S.L.B
  have Gs := S.G
  refine F.ok scLaw (fun vs H Q E h => ?_) (fun cdv A outer s H vs Q E hr h => ?_)
  · obtain ⟨a, ns, rfl, _⟩ := h
    rfl
  · obtain ⟨a, ns, rfl, hS, hlen, k⟩ := h
    have hr1 : Room 1 _ := hr.mono (by decide)
    have hr2 : Room 2 _ := hr.mono (by decide)
    have hr3 : Room 3 _ := hr.mono (by decide)
    have hr5 : Room 5 _ := hr.mono (by decide)
    have hr6 : Room 6 _ := hr.mono (by decide)
    have hr8 : Room 8 _ := hr.mono (by decide)
    refine ⟨_, pss_cons (ps_set (i := 1) scLaw.nd rfl (Or.inl rfl) (pe_call (ok_box FB B) hr1 rfl mB FB.kp bB .nil pass0 (pa_cons (pv 0) pa_nil)))
      (pss_cons (ps_set (i := 2) scLaw.nd rfl (Or.inr rfl) (pe_op op_add pe_int (pe_call (ok_take FT B) hr1 rfl mT FT.kp bT .nil pass0 (pa_cons (pv 1) (pa_cons pe_int pa_nil)))))
      (pss_cons (ps_set (i := 3) scLaw.nd rfl (Or.inl rfl) (pe_call (ok_rowsL FRL S.L) hr3 rfl mRL FRL.kp bRL .nil pass0 (pa_cons (pv 1) (pa_cons (pv 2) (pa_cons pe_int pa_nil)))))
      (pss_cons (ps_if (PW.pt (pw_or (pt_not (pt_val (pe_call (ok_same FS S.V) hr3 rfl mS FS.kp bS .nil pass0 (pa_cons (ClX.pe_cmeth (pe_glob rfl Gs.T.mgC (v := .ref C) rfl) Gs.T.rd c1 (cls_raw (ok_ident F1 Gs FN MN bN) b1) hr5 pass0 (pa_cons (pv 2) pa_nil)) (pa_cons (pe_call (ok_sameR FSR B) hr1 rfl mSR FSR.kp bSR .nil pass0 (pa_cons (pv 2) pa_nil)) pa_nil))))) (pw_or1 (pt_not (pt_val (pe_call (ok_same FS S.V) hr3 rfl mS FS.kp bS .nil pass0 (pa_cons (ClX.pe_cmeth (pe_glob rfl Gs.T.mgC (v := .ref C) rfl) Gs.T.rd c3 (cls_raw (ok_empty F3 Gs FN MN bN) b3) hr5 pass0 (pa_cons (pv 2) pa_nil)) (pa_cons (pe_lc (own := [("_law_k", 13)]) (g := (gName 13)) (tt := tYes) (te := (tLst tNil)) rfl scLaw.nd (pi_range1 (by rfl) B.range (pa_cons (pv 2) pa_nil)) (blkOk_by (own := [("_law_k", 13)]) (N := NL) (sc := defScope sLaw) (by decide +kernel)) (fun _ _ _ _ _ => (pg_name (i := 13) scLaw.nd rfl (Or.inl rfl))) (fun _ _ _ _ _ => pts_nil) (fun _ _ _ _ _ => (pe_lst pa_nil))) pa_nil)))))))) (pss_one ps_never) pss_nil)
      (pss_cons (ps_if (PW.pt (pw_or (pt_not (pt_val (pe_call (ok_same FS S.V) hr3 rfl mS FS.kp bS .nil pass0 (pa_cons (ClX.pe_cmeth (pe_glob rfl Gs.T.mgC (v := .ref C) rfl) Gs.T.rd c2 (cls_raw (ok_full F2 Gs FN MN bN) b2) hr5 pass0 (pa_cons (pv 2) pa_nil)) (pa_cons (pe_lc (own := [("_law_k", 13)]) (g := (gName 13)) (tt := tYes) (te := (tLstRg (tRg1 (tVar 2)))) rfl scLaw.nd (pi_range1 (by rfl) B.range (pa_cons (pv 2) pa_nil)) (blkOk_by (own := [("_law_k", 13)]) (N := NL) (sc := defScope sLaw) (by decide +kernel)) (fun _ _ _ _ _ => (pg_name (i := 13) scLaw.nd rfl (Or.inl rfl))) (fun _ _ _ _ _ => pts_nil) (fun _ _ _ _ _ => (pe_listRg rfl (by rfl) B.list (prg_1 (by rfl) B.range (pv 2))))) pa_nil))))) (pw_or1 (pt_cmpR op_ne (ClX.pe_cval (pe_glob rfl Gs.T.mgC (v := .ref C) rfl)) pe_int (nomark _))))) (pss_one ps_never) pss_nil)
      (pss_cons (ps_set (i := 4) scLaw.nd rfl (Or.inl rfl) (pe_call (ok_mixedQ FMx S.L) hr2 rfl mMx FMx.kp bMx .nil pass0 (pa_cons (pv 1) (pa_cons (pe_call (ok_pairsL FPL B) hr1 rfl mPL FPL.kp bPL .nil pass0 (pa_cons (pv 3) pa_nil)) pa_nil))))
      (pss_cons (ps_set (i := 5) scLaw.nd rfl (Or.inl rfl) (pe_callTy call_list_of (by rfl) B.list (by decide +kernel) (pa_cons (pv 4) pa_nil)))
      (pss_cons (ps_set (i := 6) scLaw.nd rfl (Or.inl rfl) (StX.pe_smeth (pe_glob rfl Gs.T.mgC (v := .ref C) rfl) Gs.T.rd c4 F4.kp (cls_raw (ok_of F4 Gs FN MN bN FIt S.M.mIt bIt i1 i2 FW mW bW S.RS.er S.RU.er) b4) hr6 passN (pa_cons (pv 2) (pa_cons (pv 4) pa_nil))))
      (pss_cons (ps_if (PW.pt (pw_or (pt_not (pt_val (pe_call (ok_same FS S.V) hr3 rfl mS FS.kp bS .nil pass0 (pa_cons (pv 6) (pa_cons (pv 3) pa_nil))))) (pw_or1 (pt_cmpR (op_neD hr.units) (pv 4) (pv 5) (nomark _))))) (pss_one ps_never) pss_nil)
      (pss_cons (ps_expr (pe_bm PySem.F.plainAttrs_list PySem.F.slot_list_append PySem.F.type_list_append mt_append (pv 4) (pa_cons (pe_tup (pa_cons pe_int (pa_cons (pe_op op_sub (pv 2) pe_int) pa_nil))) pa_nil)))
      (pss_cons (ps_if (PW.pt (pw_or (pt_not (pt_val (pe_call (ok_same FS S.V) hr3 rfl mS FS.kp bS .nil pass0 (pa_cons (pv 6) (pa_cons (pv 3) pa_nil))))) (pw_or1 (pt_not (pt_val (pe_call (ok_same FS S.V) hr3 rfl mS FS.kp bS .nil pass0 (pa_cons (StX.pe_smeth (pe_glob rfl Gs.T.mgC (v := .ref C) rfl) Gs.T.rd c4 F4.kp (cls_raw (ok_of F4 Gs FN MN bN FIt S.M.mIt bIt i1 i2 FW mW bW S.RS.er S.RU.er) b4) hr6 passN (pa_cons (pv 2) (pa_cons (pv 6) pa_nil))) (pa_cons (pv 3) pa_nil)))))))) (pss_one ps_never) pss_nil)
      (pss_cons (ps_if (PW.pt (pw_or (pt_not (pt_val (pe_call (ok_same FS S.V) hr3 rfl mS FS.kp bS .nil pass0 (pa_cons (StX.pe_smeth (pe_glob rfl Gs.T.mgC (v := .ref C) rfl) Gs.T.rd c4 F4.kp (cls_raw (ok_of F4 Gs FN MN bN FIt S.M.mIt bIt i1 i2 FW mW bW S.RS.er S.RU.er) b4) hr6 passN (pa_cons pe_int (pa_cons (pv 6) pa_nil))) (pa_cons (pe_op op_cat (pv 3) (pe_lc (own := [("_law_k", 13)]) (g := (gName 13)) (tt := tYes) (te := (tLst tNil)) rfl scLaw.nd (pi_range1 (by rfl) B.range (pa_cons (pe_op op_sub pe_int (pv 2)) pa_nil)) (blkOk_by (own := [("_law_k", 13)]) (N := NL) (sc := defScope sLaw) (by decide +kernel)) (fun _ _ _ _ _ => (pg_name (i := 13) scLaw.nd rfl (Or.inl rfl))) (fun _ _ _ _ _ => pts_nil) (fun _ _ _ _ _ => (pe_lst pa_nil)))) pa_nil))))) (pw_or1 (pt_not (pt_val (pe_call (ok_smaller FSm S.G S.M S.so FME mME bME S.H S.RS S.RU S.x00 S.x20 S.x22) hr rfl mSm FSm.kp bSm .nil pass0 (pa_cons (pv 6) (pa_cons (pv 5) pa_nil)))))))) (pss_one ps_never) pss_nil)
      (C8.pss_cut (ps_set (i := 7) scLaw.nd rfl (Or.inl rfl) (pe_ix ix_list (pe_lst (pa_cons pe_int (pa_cons (pe_op op_sub (pe_un un_neg pe_int) (pe_call (ok_take FT B) hr1 rfl mT FT.kp bT .nil pass0 (pa_cons (pv 1) (pa_cons (pe_op op_pow pe_int pe_int) pa_nil)))) (pa_cons (pe_op op_add pe_int (pe_call (ok_take FT B) hr1 rfl mT FT.kp bT .nil pass0 (pa_cons (pv 1) (pa_cons (pe_op op_pow pe_int pe_int) pa_nil)))) pa_nil)))) (pe_call (ok_take FT B) hr1 rfl mT FT.kp bT .nil pass0 (pa_cons (pv 1) (pa_cons pe_int pa_nil))) (fun _ _ => rfl)))
      (pss_cons (ps_for PassesOwn.never rfl (pi_range1 (by rfl) B.range (pa_cons pe_int pa_nil)) (pg_name (i := 8) scLaw.nd rfl (Or.inl rfl)) (pss_cons (ps_if (pt_cmpR (op_neD hr.units) (pe_call (ok_ME FME S.G S.M S.H S.RS S.RU S.x00 S.x20 S.x22) hr8 rfl mME FME.kp bME .nil pass0 (pa_cons (pv 8) (pa_cons (pv 7) (pa_cons (pe_callTy call_list_of (by rfl) B.list (by decide +kernel) (pa_cons (pv 5) pa_nil)) pa_nil)))) (pe_lst (pa_cons pe_str (pa_cons (pv 7) (pa_cons pe_bl pa_nil)))) (nomark _)) (pss_one ps_never) pss_nil)
      (pss_one (ps_if (pt_cmpR (op_neD hr.units) (pe_call (ok_ME FME S.G S.M S.H S.RS S.RU S.x00 S.x20 S.x22) hr8 rfl mME FME.kp bME .nil pass0 (pa_cons (pv 8) (pa_cons (pv 2) (pa_cons (pe_callTy call_list_of (by rfl) B.list (by decide +kernel) (pa_cons (pv 5) pa_nil)) pa_nil)))) (pe_lst pa_nil) (nomark _)) (pss_one ps_never) pss_nil))))
      (pss_cons (ps_set (i := 9) scLaw.nd rfl (Or.inl rfl) (pe_call (ok_far FF S.L) hr2 rfl mF FF.kp bF .nil pass0 (pa_cons (pv 1) (pa_cons (pv 2) pa_nil))))
      (C8.pss_cut (ps_set (i := 10) scLaw.nd rfl (Or.inl rfl) (pe_ix ix_list (pe_lst (pa_cons (pe_tup (pa_cons (pv 9) (pa_cons pe_int pa_nil))) (pa_cons (pe_tup (pa_cons (pe_op op_sub (pv 2) pe_int) (pa_cons (pv 9) pa_nil))) (pa_cons (pe_tup (pa_cons (pv 9) (pa_cons (pe_call (ok_far FF S.L) hr2 rfl mF FF.kp bF .nil pass0 (pa_cons (pv 1) (pa_cons (pv 2) pa_nil))) pa_nil))) pa_nil)))) (pe_call (ok_take FT B) hr1 rfl mT FT.kp bT .nil pass0 (pa_cons (pv 1) (pa_cons pe_int pa_nil))) (fun _ _ => rfl)))
      (pss_cons (ps_set (i := 11) scLaw.nd rfl (Or.inl rfl) (pe_call (ok_take FT B) hr1 rfl mT FT.kp bT .nil pass0 (pa_cons (pv 1) (pa_cons (pe_op op_add (pe_callB call_len_seq (by rfl) B.len PySem.boot_len (pa_cons (pv 5) pa_nil)) pe_int) pa_nil))))
      (pss_cons (ps_set (i := 12) scLaw.nd rfl (Or.inl rfl) (pe_op op_cat (pe_op op_cat (pe_op op_cat (pe_slice sl_list (pv 5) po_none (po_some (pv 11))) (pe_lst (pa_cons (pv 10) pa_nil))) (pe_slice sl_list (pv 5) (po_some (pv 11)) po_none)) (pe_lst (pa_cons (pe_tup (pa_cons (pe_call (ok_far FF S.L) hr2 rfl mF FF.kp bF .nil pass0 (pa_cons (pv 1) (pa_cons (pv 2) pa_nil))) (pa_cons pe_int pa_nil))) pa_nil))))
      (pss_one (ps_ret (pe_cmpR (op_eqD hr.units) (pe_call (ok_ME FME S.G S.M S.H S.RS S.RU S.x00 S.x20 S.x22) hr8 rfl mME FME.kp bME .nil pass0 (pa_cons pe_int (pa_cons (pv 2) (pa_cons (pv 12) pa_nil)))) (pe_lst (pa_cons pe_str (pa_cons (pv 9) (pa_cons pe_bl pa_nil)))) (nomark _))))))))))))))))))))), ?_⟩
    refine ⟨_, rfl, a, ns, rfl, hS, hlen, fun H1 b c s1 hb0 hb1 => ?_⟩
    refine ⟨_, rfl, b, c, 6, rfl, hb1, by decide, by decide, fun r0 H2 hr2' hb2 s2 => ?_⟩
    refine ⟨_, _, rfl, rfl, ?_⟩
    have en : (1 : Int) + (r0 : Int) = ((r0 + 1 : Nat) : Int) := by omega
    have eV : (fun (i j : Int) => V.int (i + j)) 1 (r0 : Int) = V.int ((r0 + 1 : Nat) : Int) := congrArg V.int en
    rw [eV]
    have n1 : 1 ≤ r0 + 1 := by omega
    have n6 : r0 + 1 ≤ 6 := by omega
    generalize r0 + 1 = n at n1 n6
    refine ⟨_, rfl, _, rfl, b, c, n, 0, rfl, hb2, n1, n6, by decide, by decide, fun H3 l ls R hb3 s3 l0 hl hR0 eR hC => ?_⟩
    have cR : CanR n R := ⟨eR, hC⟩
    have hR : RowsL (off b H3) ls R := RowsN.rows hR0
    have r6 : ∀ q ∈ R, q.length ≤ 6 := fun q hq => by have := (hC q hq).len; omega
    clear hR0 s3 s2 s1 hb2 hb1 hb0 l0
    -- identity, empty
    refine ⟨rfl, _, rfl, n, rfl, n1, n6, fun H4 x s4 x0 hX => ?_⟩
    refine ⟨_, rfl, n, rfl, n6, fun H5 l5 ls5 s5 _ hl5 hR5 => ?_⟩
    refine ⟨x, l5, ls5, idT n, rfl, hX.same s5, hl5, hR5, fun H6 s6 => ⟨_, rfl, iteF ?_⟩⟩
    have s36 := s4.trans (s5.trans s6)
    refine ⟨rfl, _, rfl, n, rfl, n1, n6, fun H7 y s7 y0 hY => ?_⟩
    refine ⟨_, rfl, n, rfl, by omega, by omega, fun D hD => ?_⟩
    refine lc_range (lo := 0) (n := n) (fun i H' => Same H7 H' ∧ ∃ ks, H' D = some (.lst ks) ∧ RowsL H' ks (List.replicate i []) ∧ ∀ v ∈ ks, v ≠ .ref D) ⟨Same.new hD, [], upd_same, .nil, fun _ h => by cases h⟩ ?_ ?_
    · rintro i H8 hi ⟨s8, ks, hk, hKs, nD⟩
      refine ⟨rfl, yesT (iteT ⟨Nat.zero_le _, fun u hu => ?_⟩)⟩
      have a := Same.new (H := H8) (o := .lst []) hu
      have nu : u ≠ D := (ne_of_none hk hu).symm
      obtain ⟨z1, z2⟩ := RowsL.snoc (r := []) (o := .lst (ks ++ [.ref u])) (RowsL.same a hKs) nD upd_same nu
      refine ⟨ks, a _ _ hk, ?_, Same.updN (s8.trans a) hD, ks ++ [.ref u], upd_same, ?_, z2⟩
      · rw [Paired.length hKs, List.length_replicate]
        exact Nat.lt_of_le_of_lt (by omega : i ≤ 6) (by decide)
      · rw [List.replicate_succ']
        exact z1
    rintro H8 ⟨s8, ks, hk, hKs, _⟩
    refine ⟨y, D, ks, List.replicate n [], rfl, hY.same s8, hk, hKs, fun H9 s9 => ⟨_, rfl, iteF ?_⟩⟩
    have s39 := s36.trans (s7.trans (s8.trans s9))
    clear hX hY hk hKs hl5 hR5 x0 y0 hD s4 s5 s6 s7 s8 s9 s36
    -- full, MOST
    refine ⟨rfl, _, rfl, n, rfl, n1, n6, fun H4 x s4 x0 hX => ?_⟩
    refine ⟨_, rfl, n, rfl, by omega, by omega, fun D hD => ?_⟩
    refine lc_range (lo := 0) (n := n) (fun i H' => Same H4 H' ∧ ∃ ks, H' D = some (.lst ks) ∧ RowsL H' ks (List.replicate i (filt n fun _ => true)) ∧ ∀ v ∈ ks, v ≠ .ref D) ⟨Same.new hD, [], upd_same, .nil, fun _ h => by cases h⟩ ?_ ?_
    · rintro i H5 hi ⟨s5, ks, hk, hKs, nD⟩
      refine ⟨rfl, yesT (iteT ⟨_, rfl, (n : Int), rfl, RgOk.of_le (by decide) (by omega) (by decide) (by omega), fun u hu => ?_⟩)⟩
      rw [rg_up]
      have a := Same.new (H := H5) (o := .lst (vI (filt n fun _ => true))) hu
      have nu : u ≠ D := (ne_of_none hk hu).symm
      obtain ⟨z1, z2⟩ := RowsL.snoc (r := filt n fun _ => true) (o := .lst (ks ++ [.ref u])) (RowsL.same a hKs) nD upd_same nu
      refine ⟨ks, a _ _ hk, ?_, Same.updN (s5.trans a) hD, ks ++ [.ref u], upd_same, ?_, z2⟩
      · rw [Paired.length hKs, List.length_replicate]
        exact Nat.lt_of_le_of_lt (by omega : i ≤ 6) (by decide)
      · rw [List.replicate_succ']
        exact z1
    rintro H5 ⟨s5, ks, hk, hKs, _⟩
    refine ⟨x, D, ks, fullT n, rfl, hX.same s5, hk, hKs, fun H6 s6 => ⟨_, rfl, iteF ?_⟩⟩
    obtain ⟨tM, ms⟩ := Gs.T.most
    refine ⟨C, _, .int 6, _, rfl, Gs.T.rd, ⟨ms, ⟨_, rfl⟩⟩, rfl, _, rfl, iteNS rfl ?_⟩
    have s36 := s39.trans (s4.trans (s5.trans s6))
    have b6 := hb3.same s36
    have so := Same.off (b := b) s36
    have hl6 := so _ _ hl
    have hR6 := RowsL.same so hR
    clear hX hk hKs x0 hD s4 s5 s6 s39 s36 so hl hR hb3
    -- the pairs, mixed
    have pl36 : (prs 0 R).length ≤ 36 := by
      have := prs_len6 (k := 0) R r6
      rw [eR] at this
      omega
    refine ⟨_, rfl, _, rfl, l, ls, R, rfl, off_le _ _ hl6, RowsL.same off_le hR6, by omega, r6, fun H7 d ds s7 d0 hd hds => ?_⟩
    have b7 := b6.same s7
    have db : d ≠ b := b6.ne d0
    have hd7 : off b H7 d = some (.lst ds) := by rw [off_ne db]; exact hd
    have hP7 : PairsT (off b H7) ds (prs 0 R) := by
      obtain ⟨_, _, _, _, e, _⟩ := id b7
      exact PairsT.off e hds
    refine ⟨b, c, d, ds, prs 0 R, rfl, b7, hd7, hP7, pl36, fun H8 g gs B' b8 s8 g0 hg hPg b37 mem => ?_⟩
    have s78 := (Same.off (b := b) s7).trans s8
    have hl8 := s78 _ _ hl6
    have avl : ∀ v ∈ ls, v ≠ .ref g := RowsL.avoidNew (RowsL.same (Same.off s7) hR6) g0
    have nlg : l ≠ g := ne_of_none ((Same.off (b := b) s7) _ _ hl6) g0
    have hR8 := RowsL.same s78 hR6
    have gb := off_ne_of hg
    have gc : g ≠ c := fun z => by
      obtain ⟨cs, i, p, st, _, h2, h3, _⟩ := b7
      rw [z, off_ne h3, h2] at g0
      cases g0
    refine ⟨_, rfl, g, gs, rfl, .inl (SqL.of (off_le _ _ hg)), fun kp hkp => ?_⟩
    have s9 := Same.new (H := H8) (o := .lst gs) hkp
    have kpb := b8.ne hkp
    have nkg : kp ≠ g := (ne_of_none (off_le _ _ hg) hkp).symm
    have b9 := b8.same s9
    have hk9 : upd H8 kp (.lst gs) kp = some (.lst gs) := upd_same
    have hg9 := s9 _ _ (off_le _ _ hg)
    have hP9 := PairsT.same (off_le.trans s9) hPg
    have hl9 := s9 _ _ (off_le _ _ hl8)
    have hR9 := RowsL.same (off_le.trans s9) hR8
    generalize upd H8 kp (.lst gs) = H9 at s9 b9 hk9 hg9 hP9 hl9 hR9
    clear s9 hP7 hd7 hds hd hg hPg hl8 hR8 s8 s78 b8 b7 b6 hl6 hR6 s7 g0 hkp d0 db
    have wsB : ∀ z ∈ B', isW n z.1 = true ∧ isW n z.2 = true := fun z hz => by
      obtain ⟨j, hj, e1, e2⟩ := prs_mem.mp ((mem z).mp hz)
      rw [eR] at hj
      have bb := (cR.row hj).mem e2
      exact ⟨isW_iff.mpr ⟨by omega, by omega⟩, isW_iff.mpr ⟨by omega, by omega⟩⟩
    have wsP : ∀ z ∈ prs 0 R, isW n z.1 = true ∧ isW n z.2 = true := fun z hz => wsB z ((mem z).mpr hz)
    -- the table of these pairs
    refine ⟨rfl, _, rfl, _, rfl, .inl ⟨n, g, B', rfl, n1, n6, .inl ⟨gs, hg9, hP9⟩, by omega, .inl ⟨fb_ok (Nat.le_refl n) wsB, fun H10 x s10 x0 hX => ?_⟩⟩⟩
    rw [of_rows cR (Nat.le_refl n) mem, Nat.sub_self, List.replicate_zero, List.append_nil] at hX
    refine ⟨_, rfl, _, rfl, x, l, ls, R, rfl, hX, s10 _ _ hl9, RowsL.same s10 hR9, fun H11 s11 => ⟨_, rfl, iteF ?_⟩⟩
    have s911 := s10.trans s11
    have dd1 : Dp K H11 (.ref g) (.list (dPs B')) := .lst (SqL.of (s911 _ _ hg9)) (dpAllP (PairsT.same s911 hP9))
    have dd2 : Dp K H11 (.ref kp) (.list (dPs B')) := .lst (SqL.of (s911 _ _ hk9)) (dpAllP (PairsT.same s911 hP9))
    refine ⟨_, rfl, _, rfl, _, _, dd1, dd2, (shPs B').2, (shPs B').2, _, rfl, ?_⟩
    rw [SeqAt.eqv_refl _ (SeqAt.canLay_of_shaped (shPs B').2)]
    refine iteF ?_
    -- one more pair in the list
    refine ⟨_, rfl, .inl ⟨rfl, _, SqL.of (s911 _ _ hg9)⟩, _, rfl, _, _, rfl, rfl, (by show 2 ≤ sizeLine; decide), fun u hu => ?_⟩
    have s12 := Same.new (H := H11) (o := .tup [.int 0, .int ((n : Int) - 1)]) hu
    have s912 := s911.trans s12
    have X12 := hX.same (s11.trans s12)
    have hg12 := s912 _ _ hg9
    have b12 := b9.same s912
    have hl12 := s912 _ _ hl9
    have hR12 := RowsL.same s912 hR9
    have hk12 := s912 _ _ hk9
    have hP12 := PairsT.same s912 hP9
    generalize upd H11 u (.tup [.int 0, .int ((n : Int) - 1)]) = H12 at s12 s912 X12 hg12 b12 hl12 hR12 hk12 hP12
    refine ⟨g, _, _, rfl, rfl, hg12, ?_, ?_⟩
    · rw [Paired.length hP12]
      exact Nat.lt_of_le_of_lt b37 (by decide)
    have b13 : BoxAt (upd H12 g (.lst (gs ++ [.ref u]))) b c := b12.upd gb gc
    have hl13 : upd H12 g (.lst (gs ++ [.ref u])) l = some (.lst ls) := by rw [upd_ne nlg]; exact hl12
    have hR13 : RowsL (upd H12 g (.lst (gs ++ [.ref u]))) ls R := RowsL.stay hR12 avl
    have hk13 : upd H12 g (.lst (gs ++ [.ref u])) kp = some (.lst gs) := by rw [upd_ne nkg]; exact hk12
    have hP13 : PairsT (upd H12 g (.lst (gs ++ [.ref u]))) gs B' := PairsT.updL hP12 hg12
    have X13 : Tab C (upd H12 g (.lst (gs ++ [.ref u]))) x R := X12.updL hg12
    generalize upd H12 g (.lst (gs ++ [.ref u])) = H13 at b13 hl13 hR13 hk13 hP13 X13
    clear X12 hg12 b12 hl12 hR12 hk12 hP12 s12 s912 s911 s11 s10 hX hg9 hk9 hP9 hl9 hR9 b9 x0 dd1 dd2
    have pl : (prs 0 R).length ≤ 100 := by omega
    refine ⟨_, rfl, _, rfl, x, l, ls, R, rfl, X13, hl13, hR13, fun H14 s14 => ⟨_, rfl, iteF ?_⟩⟩
    obtain ⟨dx, tr, tp, ts, qs, t1, t2, t3, t4, t5, t6, _⟩ := id X13
    refine ⟨rfl, _, rfl, _, rfl, .inl ⟨n, x, prs 0 R, rfl, n1, n6, .inr ⟨dx, tr, tp, R.length, qs, s14 _ _ t1, s14 _ _ t5, PairsT.same s14 t6⟩, pl, .inl ⟨fb_ok (Nat.le_refl n) wsP, fun H15 y s15 y0 hY => ?_⟩⟩⟩
    rw [of_rows cR (Nat.le_refl n) (fun _ => Iff.rfl), Nat.sub_self, List.replicate_zero, List.append_nil] at hY
    have s1315 := s14.trans s15
    refine ⟨_, rfl, y, l, ls, R, rfl, hY, s1315 _ _ hl13, RowsL.same s1315 hR13, fun H16 s16 => ⟨_, rfl, iteF ?_⟩⟩
    have s1316 := s1315.trans s16
    -- in a wider table
    refine ⟨rfl, _, rfl, .inl ⟨6, x, prs 0 R, rfl, by decide, by decide, .inr ⟨dx, tr, tp, R.length, qs, s1316 _ _ t1, s1316 _ _ t5, PairsT.same s1316 t6⟩, pl, .inl ⟨fb_ok n6 wsP, fun H17 z s17 z0 hZ => ?_⟩⟩⟩
    rw [of_rows cR n6 (fun _ => Iff.rfl)] at hZ
    have s1317 := s1316.trans s17
    refine ⟨_, rfl, _, rfl, _, _, rfl, rfl, ?_⟩
    have e6 : (6 : Int) - (n : Int) = ((6 - n : Nat) : Int) := by omega
    refine ⟨((6 - n : Nat) : Int), congrArg (fun v => [V.int v]) e6, by omega, by omega, fun D hD => ?_⟩
    refine lc_range (lo := 0) (n := 6 - n) (fun i H' => Same H17 H' ∧ ∃ ks, H' D = some (.lst ks) ∧ RowsL H' ks (List.replicate i []) ∧ ∀ v ∈ ks, v ≠ .ref D) ⟨Same.new hD, [], upd_same, .nil, fun _ h => by cases h⟩ ?_ ?_
    · rintro i H18 hi ⟨s18, ks, hk, hKs, nD⟩
      refine ⟨rfl, yesT (iteT ⟨Nat.zero_le _, fun u hu => ?_⟩)⟩
      have a := Same.new (H := H18) (o := .lst []) hu
      have nu : u ≠ D := (ne_of_none hk hu).symm
      obtain ⟨z1, z2⟩ := RowsL.snoc (r := []) (o := .lst (ks ++ [.ref u])) (RowsL.same a hKs) nD upd_same nu
      refine ⟨ks, a _ _ hk, ?_, Same.updN (s18.trans a) hD, ks ++ [.ref u], upd_same, ?_, z2⟩
      · rw [Paired.length hKs, List.length_replicate]
        exact Nat.lt_of_le_of_lt (by omega : i ≤ 6) (by decide)
      · rw [List.replicate_succ']
        exact z1
    rintro H18 ⟨s18, ks, hk, hKs, _⟩
    have s1318 := s1317.trans s18
    refine ⟨l, D, _, _, rfl, rfl, s1318 _ _ hl13, hk, ?_, fun q hq => ?_⟩
    · rw [Paired.length hR13, Paired.length hKs, List.length_replicate, eR]
      exact Nat.le_trans (by omega : _ ≤ 6) (by decide)
    have s19 := Same.new (H := H18) (o := .lst (ls ++ ks)) hq
    have s1319 := s1318.trans s19
    refine ⟨z, q, ls ++ ks, R ++ List.replicate (6 - n) [], rfl, hZ.same (s18.trans s19), upd_same, Paired.app (RowsL.same s1319 hR13) (RowsL.same s19 hKs), fun H20 s20 => ⟨_, rfl, iteF ?_⟩⟩
    have s1320 := s1319.trans s20
    refine ⟨_, rfl, _, rfl, x, kp, n, R, gs, B', rfl, X13.same s1320, cR, n6, s1320 _ _ hk13, PairsT.same s1320 hP13, by omega, mem, fun H21 s21 => ⟨_, rfl, iteF ?_⟩⟩
    have s1321 := s1320.trans s21
    have b21 := b13.same s1321
    have hk21 : off b H21 kp = some (.lst gs) := by rw [off_ne kpb]; exact s1321 _ _ hk13
    have hP21 : PairsT (off b H21) gs B' := by
      obtain ⟨_, _, _, _, e, _⟩ := id b21
      exact PairsT.off e (PairsT.same s1321 hP13)
    clear X13 hl13 hR13 hk13 hP13 b13 t1 t2 t3 t4 t5 t6 hY hZ hk hKs
    -- a wrong size
    refine ⟨fun σ' H' => ∃ w : Int, σ' = [some (.ref a), some (.ref b), some (.int n), some (.ref l), some (.ref g), some (.ref kp), some (.ref x), some (.int w), none, none, none, none, none, none] ∧ (decide (1 ≤ w) && decide (w ≤ 6)) = false ∧ w.natAbs ≤ 1000000010 ∧ BoxAt H' b c ∧ off b H' kp = some (.lst gs) ∧ PairsT (off b H') gs B', ?_, ?_⟩
    · refine ⟨_, rfl, _, rfl, _, _, rfl, rfl, ⟨by decide, by decide, by decide⟩, b, c, _, rfl, b21, by decide, by decide, fun w1 H22 hw1 b22 s22 => ?_⟩
      have hw1' : (w1 : Int) < 1000000000 := hw1
      refine ⟨_, _, rfl, rfl, _, rfl, _, _, rfl, rfl, ⟨by decide, by decide, by decide⟩, b, c, _, rfl, b22, by decide, by decide, fun w2 H23 hw2 b23 s23 => ?_⟩
      have hw2' : (w2 : Int) < 1000000000 := hw2
      refine ⟨_, _, rfl, rfl, by show 3 ≤ sizeLine; decide, fun q hq => ?_⟩
      have s24 := Same.new (H := H23) (o := .lst [.int 0, .int (-1 - (w1 : Int)), .int (7 + (w2 : Int))]) hq
      have qb := b23.ne hq
      refine ⟨_, rfl, b, c, 3, rfl, b23.same s24, by decide, by decide, fun r4 H25 hr4 b25 s25 => ?_⟩
      have hq25 : H25 q = some (.lst [.int 0, .int (-1 - (w1 : Int)), .int (7 + (w2 : Int))]) := off_le _ _ (s25 _ _ (by rw [off_ne qb]; exact upd_same))
      have sA := (s22.trans s23).trans ((Same.off s24).trans s25)
      have hk25 := sA _ _ hk21
      have hP25 := PairsT.same sA hP21
      have r43 : r4 < 3 := by omega
      match r4, r43 with
      | 0, _ => exact ⟨q, _, _, _, rfl, rfl, SqL.of hq25, atI_nat (xs := [V.int 0, .int (-1 - (w1 : Int)), .int (7 + (w2 : Int))]) (j := 0) rfl, 0, rfl, by decide, by decide, b25, hk25, hP25⟩
      | 1, _ => exact ⟨q, _, _, _, rfl, rfl, SqL.of hq25, atI_nat (xs := [V.int 0, .int (-1 - (w1 : Int)), .int (7 + (w2 : Int))]) (j := 1) rfl, -1 - (w1 : Int), rfl, by rw [decide_eq_false (by omega)]; rfl, by omega, b25, hk25, hP25⟩
      | 2, _ => exact ⟨q, _, _, _, rfl, rfl, SqL.of hq25, atI_nat (xs := [V.int 0, .int (-1 - (w1 : Int)), .int (7 + (w2 : Int))]) (j := 2) rfl, 7 + (w2 : Int), rfl, by rw [decide_eq_false (by omega : ¬ 7 + (w2 : Int) ≤ 6), Bool.and_false], by omega, b25, hk25, hP25⟩
    rintro σ' H22 ⟨w, rfl, wbad, wabs, b22, hk22, hP22⟩
    clear b21 hk21 hP21
    have hk := off_le _ _ hk22
    have hP := PairsT.same off_le hP22
    have wpr : Pr (.int w) := Pr.int (Nat.lt_of_le_of_lt wabs (by decide))
    refine ⟨4, rfl, by decide, by decide, ?_⟩
    refine for_range (lo := 0) (n := 4) (fun i σ H' => (∃ v, σ = [some (.ref a), some (.ref b), some (.int n), some (.ref l), some (.ref g), some (.ref kp), some (.ref x), some (.int w), v, none, none, none, none, none]) ∧ Same H22 H') ⟨⟨none, rfl⟩, Same.refl _⟩ ?_ ?_
    · rintro i σ H23 hi ⟨⟨v, rfl⟩, s23⟩
      have e0 : (0 : Int) + (i : Int) = (i : Int) := Int.zero_add _
      rw [e0]
      refine ⟨_, rfl, _, rfl, _, rfl, kp, gs, rfl, .inl (SqL.of (s23 _ _ hk)), fun k2 hk2 => ?_⟩
      have s24 := Same.new (H := H23) (o := .lst gs) hk2
      refine ⟨i, w, .ref k2, rfl, hi, .inl ⟨wbad, wpr, ⟨k2, rfl⟩, fun H25 q s25 q0 hq => ?_⟩⟩
      refine ⟨_, rfl, by show 3 ≤ sizeLine; decide, fun q2 hq2 => neF ((Same.new hq2) _ _ hq) upd_same (flat3 _ fSize) (iteF ?_)⟩
      have s26 := s23.trans (s24.trans (s25.trans (Same.new (o := .lst [.str "size", .int w, .bl true]) hq2)))
      generalize upd H25 q2 (.lst [.str "size", .int w, .bl true]) = H26 at s26
      refine ⟨_, rfl, _, rfl, _, rfl, kp, gs, rfl, .inl (SqL.of (s26 _ _ hk)), fun k3 hk3 => ?_⟩
      have s27 := Same.new (H := H26) (o := .lst gs) hk3
      have s2227 := s26.trans s27
      by_cases i3 : i < 3
      · exact ⟨i, (n : Int), .ref k3, rfl, hi, .inr (.inl ⟨n, rfl, i3, n1, n6, fun H28 q3 s28 _ hq3 => ⟨Nat.zero_le _, fun q4 hq4 => neF ((Same.new hq4) _ _ hq3) upd_same rfl (iteF ⟨⟨_, rfl⟩, s2227.trans (s28.trans (Same.new hq4))⟩)⟩⟩)⟩
      · have : i = 3 := by omega
        subst this
        exact ⟨3, (n : Int), .ref k3, rfl, hi, .inr (.inr ⟨n, k3, B', rfl, rfl, n1, n6, rfl, .inl ⟨gs, upd_same, PairsT.same s2227 hP⟩, by omega, .inl ⟨fb_ok (Nat.le_refl n) wsB, fun H28 q3 s28 _ hq3 => ⟨Nat.zero_le _, fun q4 hq4 => neF ((Same.new hq4) _ _ hq3) upd_same rfl (iteF ⟨⟨_, rfl⟩, s2227.trans (s28.trans (Same.new hq4))⟩)⟩⟩⟩)⟩
    rintro σ H23 ⟨⟨v, rfl⟩, s23⟩
    have b23 := b22.same s23
    have hk23 := (Same.off (b := b) s23) _ _ hk22
    have hP23 := PairsT.same (Same.off (b := b) s23) hP22
    clear b22 hk22 hP22 hk hP s23
    -- a wrong word
    refine ⟨_, rfl, _, rfl, b, c, n, rfl, b23, n1, n6, fun bad H24 wb bb b24 s24 => ?_⟩
    have hk24 := s24 _ _ hk23
    have hP24 := PairsT.same s24 hP23
    refine ⟨fun σ' H' => ∃ (u : Addr) (p : Int × Int), σ' = [some (.ref a), some (.ref b), some (.int n), some (.ref l), some (.ref g), some (.ref kp), some (.ref x), some (.int w), v, some (.int bad), some (.ref u), none, none, none] ∧ BoxAt H' b c ∧ off b H' kp = some (.lst gs) ∧ PairsT (off b H') gs B' ∧ off b H' u = some (.tup (vP p)) ∧ [p.1, p.2].find? (fun x => !isW n x) = some bad, ?_, ?_⟩
    · have nw : (!isW n bad) = true := by rw [wb]; rfl
      refine ⟨_, rfl, by show 2 ≤ sizeLine; decide, fun u1 hu1 => ?_⟩
      have t1 := Same.new (H := H24) (o := .tup [.int bad, .int 0]) hu1
      have b25 := b24.same t1
      have ub1 := b24.ne hu1
      refine ⟨_, rfl, _, _, rfl, rfl, _, rfl, by show 2 ≤ sizeLine; decide, fun u2 hu2 => ?_⟩
      have t2 := Same.new (H := upd H24 u1 (.tup [.int bad, .int 0])) (o := .tup [.int ((n : Int) - 1), .int bad]) hu2
      have b26 := b25.same t2
      have ub2 := b25.ne hu2
      have hu1' := t2 _ _ (show upd H24 u1 (.tup [.int bad, .int 0]) u1 = some (.tup (vP (bad, 0))) from upd_same)
      have hu2' : upd (upd H24 u1 (.tup [.int bad, .int 0])) u2 (.tup [.int ((n : Int) - 1), .int bad]) u2 = some (.tup (vP ((n : Int) - 1, bad))) := upd_same
      have t12 := t1.trans t2
      generalize upd (upd H24 u1 (.tup [.int bad, .int 0])) u2 (.tup [.int ((n : Int) - 1), .int bad]) = H25 at t2 b26 hu1' hu2' t12
      refine ⟨_, rfl, _, rfl, _, rfl, b, c, n, rfl, b26, n1, n6, fun bad2 H26 _ _ b27 s27 => ?_⟩
      have sA := (Same.off (b := b) t12).trans s27
      have o1 : off b H26 u1 = some (.tup (vP (bad, 0))) := s27 _ _ (by rw [off_ne ub1]; exact hu1')
      have o2 : off b H26 u2 = some (.tup (vP ((n : Int) - 1, bad))) := s27 _ _ (by rw [off_ne ub2]; exact hu2')
      refine ⟨by show 2 ≤ sizeLine; decide, fun u3 hu3 => ?_⟩
      have t3 := Same.new (H := H26) (o := .tup [.int bad, .int bad2]) hu3
      have ub3 := b27.ne hu3
      have b28 := b27.same t3
      have o3 : off b (upd H26 u3 (.tup [.int bad, .int bad2])) u3 = some (.tup (vP (bad, bad2))) := by rw [off_ne ub3]; exact upd_same
      have t3o := Same.off (b := b) t3
      have o1 := t3o _ _ o1
      have o2 := t3o _ _ o2
      have sB := sA.trans t3o
      generalize upd H26 u3 (.tup [.int bad, .int bad2]) = H27 at t3 b28 o3 t3o o1 o2 sB
      refine ⟨by show 3 ≤ sizeLine; decide, fun q hq => ?_⟩
      have t4 := Same.new (H := H27) (o := .lst [.ref u1, .ref u2, .ref u3]) hq
      have qb := b28.ne hq
      refine ⟨_, rfl, b, c, 3, rfl, b28.same t4, by decide, by decide, fun r4 H28 hr4 b29 s29 => ?_⟩
      have hq28 : H28 q = some (.lst [.ref u1, .ref u2, .ref u3]) := off_le _ _ (s29 _ _ (by rw [off_ne qb]; exact upd_same))
      have sC := (Same.off (b := b) t4).trans s29
      have hk28 := (sB.trans sC) _ _ hk24
      have hP28 := PairsT.same (sB.trans sC) hP24
      have r43 : r4 < 3 := by omega
      match r4, r43 with
      | 0, _ => exact ⟨q, _, _, _, rfl, rfl, SqL.of hq28, atI_nat (xs := [V.ref u1, .ref u2, .ref u3]) (j := 0) rfl, u1, (bad, 0), rfl, b29, hk28, hP28, sC _ _ o1, by rw [List.find?_cons, nw]⟩
      | 1, _ => exact ⟨q, _, _, _, rfl, rfl, SqL.of hq28, atI_nat (xs := [V.ref u1, .ref u2, .ref u3]) (j := 1) rfl, u2, ((n : Int) - 1, bad), rfl, b29, hk28, hP28, sC _ _ o2, by
          rw [List.find?_cons, isW_iff.mpr (⟨by omega, by omega⟩ : 0 ≤ (n : Int) - 1 ∧ (n : Int) - 1 < (n : Int))]
          show [bad].find? _ = _
          rw [List.find?_cons, nw]⟩
      | 2, _ => exact ⟨q, _, _, _, rfl, rfl, SqL.of hq28, atI_nat (xs := [V.ref u1, .ref u2, .ref u3]) (j := 2) rfl, u3, (bad, bad2), rfl, b29, hk28, hP28, sC _ _ o3, by rw [List.find?_cons, nw]⟩
    rintro σ' H25 ⟨u, p, rfl, b25, hk25, hP25, hu25, fd⟩
    clear b24 hk24 hP24 b23 hk23 hP23
    have lg : gs.length = B'.length := Paired.length hP25
    refine ⟨_, rfl, _, rfl, kp, _, rfl, .inl (SqL.of (off_le _ _ hk25)), _, _, rfl, rfl, b, c, _, rfl, b25, by omega, by omega, fun at_ H26 hat b26 s26 => ?_⟩
    have hk26 := off_le _ _ (s26 _ _ hk25)
    have hP26 := PairsT.same (s26.trans off_le) hP25
    have hu26 := off_le _ _ (s26 _ _ hu25)
    -- the list spoilt
    refine ⟨_, rfl, _, rfl, (at_ : Int), rfl, kp, _, rfl, SqL.of hk26, fun p1 hp1 => ?_⟩
    obtain ⟨B1, hB1, l1, i1'⟩ := cut_pairs hP26 none (some (at_ : Int))
    have l1' : (cutV gs none (some (at_ : Int))).length ≤ 37 := Nat.le_trans (cutV_length _ _ _) (by omega)
    generalize cutV gs none (some (at_ : Int)) = g1 at hB1 l1'
    have a1 := Same.new (H := H26) (o := .lst g1) hp1
    have e1 : upd H26 p1 (.lst g1) p1 = some (.lst g1) := upd_same
    generalize upd H26 p1 (.lst g1) = H27 at a1 e1
    refine ⟨_, rfl, by show 1 ≤ sizeLine; decide, fun p2 hp2 => ?_⟩
    have a2 := Same.new (H := H27) (o := .lst [.ref u]) hp2
    have e2 : upd H27 p2 (.lst [.ref u]) p2 = some (.lst [.ref u]) := upd_same
    generalize upd H27 p2 (.lst [.ref u]) = H28 at a2 e2
    refine ⟨p1, p2, _, _, rfl, rfl, a2 _ _ e1, e2, Nat.le_trans (by show g1.length + 1 ≤ 40; omega) (by decide), fun p3 hp3 => ?_⟩
    have a3 := Same.new (H := H28) (o := .lst (g1 ++ [.ref u])) hp3
    have e3 : upd H28 p3 (.lst (g1 ++ [.ref u])) p3 = some (.lst (g1 ++ [.ref u])) := upd_same
    generalize upd H28 p3 (.lst (g1 ++ [.ref u])) = H29 at a3 e3
    have s29 := a1.trans (a2.trans a3)
    refine ⟨_, rfl, _, rfl, (at_ : Int), rfl, kp, _, rfl, SqL.of (s29 _ _ hk26), fun p4 hp4 => ?_⟩
    obtain ⟨B2, hB2, l2, i2'⟩ := cut_pairs hP26 (some (at_ : Int)) none
    have l2' : (cutV gs (some (at_ : Int)) none).length ≤ 37 := Nat.le_trans (cutV_length _ _ _) (by omega)
    generalize cutV gs (some (at_ : Int)) none = g2 at hB2 l2'
    have a4 := Same.new (H := H29) (o := .lst g2) hp4
    have e4 : upd H29 p4 (.lst g2) p4 = some (.lst g2) := upd_same
    generalize upd H29 p4 (.lst g2) = H30 at a4 e4
    refine ⟨p3, p4, _, _, rfl, rfl, a4 _ _ e3, e4, Nat.le_trans (by rw [List.length_append]; show g1.length + 1 + g2.length ≤ 80; omega) (by decide), fun p5 hp5 => ?_⟩
    have a5 := Same.new (H := H30) (o := .lst (g1 ++ [.ref u] ++ g2)) hp5
    have e5 : upd H30 p5 (.lst (g1 ++ [.ref u] ++ g2)) p5 = some (.lst (g1 ++ [.ref u] ++ g2)) := upd_same
    have s31 := s29.trans (a4.trans a5)
    have b31 := b26.same s31
    have p5b : p5 ≠ b := (b26.same (s29.trans a4)).ne hp5
    generalize upd H30 p5 (.lst (g1 ++ [.ref u] ++ g2)) = H31 at a5 e5 s31 b31
    have q31 : PairsT H31 (g1 ++ [.ref u] ++ g2) (B1 ++ [p] ++ B2) := Paired.app (Paired.app (PairsT.same s31 hB1) (.cons ⟨u, rfl, s31 _ _ hu26⟩ .nil)) (PairsT.same s31 hB2)
    have q31o : PairsT (off b H31) (g1 ++ [.ref u] ++ g2) (B1 ++ [p] ++ B2) := by
      obtain ⟨_, _, _, _, e, _⟩ := id b31
      exact PairsT.off e q31
    refine ⟨_, rfl, _, rfl, b, c, n, rfl, b31, n1, n6, fun f3 H32 _ _ b32 s32 => ?_⟩
    have e5' : H32 p5 = some (.lst (g1 ++ [.ref u] ++ g2)) := off_le _ _ (s32 _ _ (by rw [off_ne p5b]; exact e5))
    have q32 := PairsT.same (s32.trans off_le) q31o
    refine ⟨by show 2 ≤ sizeLine; decide, fun u5 hu5 => ⟨by show 1 ≤ sizeLine; decide, fun p6 hp6 => ?_⟩⟩
    have a6 := Same.new (H := H32) (o := .tup [.int f3, .int 0]) hu5
    have a7 := Same.new (H := upd H32 u5 (.tup [.int f3, .int 0])) (o := .lst [.ref u5]) hp6
    have hu5' := a7 _ _ (show upd H32 u5 (.tup [.int f3, .int 0]) u5 = some (.tup (vP (f3, 0))) from upd_same)
    have e6 : upd (upd H32 u5 (.tup [.int f3, .int 0])) p6 (.lst [.ref u5]) p6 = some (.lst [.ref u5]) := upd_same
    have a67 := a6.trans a7
    generalize upd (upd H32 u5 (.tup [.int f3, .int 0])) p6 (.lst [.ref u5]) = H33 at a7 hu5' e6 a67
    refine ⟨p5, p6, _, _, rfl, rfl, a67 _ _ e5', e6, Nat.le_trans (by rw [List.length_append, List.length_append]; show g1.length + 1 + g2.length + 1 ≤ 90; omega) (by decide), fun p7 hp7 => ?_⟩
    have a8 := Same.new (H := H33) (o := .lst (g1 ++ [.ref u] ++ g2 ++ [.ref u5])) hp7
    have e7 : upd H33 p7 (.lst (g1 ++ [.ref u] ++ g2 ++ [.ref u5])) p7 = some (.lst (g1 ++ [.ref u] ++ g2 ++ [.ref u5])) := upd_same
    have q34 : PairsT (upd H33 p7 (.lst (g1 ++ [.ref u] ++ g2 ++ [.ref u5]))) (g1 ++ [.ref u] ++ g2 ++ [.ref u5]) (B1 ++ [p] ++ B2 ++ [(f3, 0)]) := Paired.app (PairsT.same (a67.trans a8) q32) (.cons ⟨u5, rfl, a8 _ _ hu5'⟩ .nil)
    generalize upd H33 p7 (.lst (g1 ++ [.ref u] ++ g2 ++ [.ref u5])) = H34 at a8 e7 q34
    have fbe : fb n (B1 ++ [p] ++ B2 ++ [(f3, 0)]) = some bad := by
      rw [List.append_assoc, List.append_assoc]
      exact fb_mid (fun y hy => wsB y (i1' y hy)) fd
    refine ⟨_, rfl, _, rfl, 3, (n : Int), .ref p7, rfl, by decide, .inr (.inr ⟨n, p7, _, rfl, rfl, n1, n6, rfl, .inl ⟨_, e7, q34⟩, ?_, .inr ⟨bad, fbe, Pr.int (Nat.lt_of_le_of_lt bb (by decide)), fun H35 q s35 _ hq => ?_⟩⟩)⟩
    · rw [List.length_append, List.length_append, List.length_append]
      show B1.length + 1 + B2.length + 1 ≤ 100
      omega
    · exact ⟨_, rfl, by show 3 ≤ sizeLine; decide, fun q2 hq2 => eqF' ((Same.new hq2) _ _ hq) upd_same (flat3 _ fWord) (k _)⟩
end
end Toy
namespace Toy
open PySem PySem.Spec PyProof.Rows L2
/-! ### What the top has written, the head -/
theorem all_mk {l : PySem.W.OpenLaw} {w : World} {K : PySem.W.Frag} {h : Heap} {mg : Str → Option Value} {fa C : Addr} {tM : Tok} (X : K.In h) (G : h.Ns mainGlobals mg) (hfa : mg "law" = some (.ref fa))
    {f1 : Addr} {od1 an1 : Option Addr} {sl1 : Array (Option Value)} {oc1 kV1 dc1 pm1 cd1 ct1 : Value}
    {f2 : Addr} {od2 an2 : Option Addr} {sl2 : Array (Option Value)} {oc2 kV2 dc2 pm2 cd2 ct2 : Value}
    {f3 : Addr} {od3 an3 : Option Addr} {sl3 : Array (Option Value)} {oc3 kV3 dc3 pm3 cd3 ct3 : Value}
    {f4 : Addr} {od4 an4 : Option Addr} {sl4 : Array (Option Value)} {oc4 kV4 dc4 pm4 cd4 ct4 : Value}
    {f5 : Addr} {od5 an5 : Option Addr} {sl5 : Array (Option Value)} {oc5 kV5 dc5 pm5 cd5 ct5 : Value}
    {f6 : Addr} {od6 an6 : Option Addr} {sl6 : Array (Option Value)} {oc6 kV6 dc6 pm6 cd6 ct6 : Value}
    {f7 : Addr} {od7 an7 : Option Addr} {sl7 : Array (Option Value)} {oc7 kV7 dc7 pm7 cd7 ct7 : Value}
    {f8 : Addr} {od8 an8 : Option Addr} {sl8 : Array (Option Value)} {oc8 kV8 dc8 pm8 cd8 ct8 : Value}
    {f9 : Addr} {od9 an9 : Option Addr} {sl9 : Array (Option Value)} {oc9 kV9 dc9 pm9 cd9 ct9 : Value}
    {f10 : Addr} {od10 an10 : Option Addr} {sl10 : Array (Option Value)} {oc10 kV10 dc10 pm10 cd10 ct10 : Value}
    {f11 : Addr} {od11 an11 : Option Addr} {sl11 : Array (Option Value)} {oc11 kV11 dc11 pm11 cd11 ct11 : Value}
    {f12 : Addr} {od12 an12 : Option Addr} {sl12 : Array (Option Value)} {oc12 kV12 dc12 pm12 cd12 ct12 : Value}
    {f13 : Addr} {od13 an13 : Option Addr} {sl13 : Array (Option Value)} {oc13 kV13 dc13 pm13 cd13 ct13 : Value}
    {f14 : Addr} {od14 an14 : Option Addr} {sl14 : Array (Option Value)} {oc14 kV14 dc14 pm14 cd14 ct14 : Value}
    {f15 : Addr} {od15 an15 : Option Addr} {sl15 : Array (Option Value)} {oc15 kV15 dc15 pm15 cd15 ct15 : Value}
    {f16 : Addr} {od16 an16 : Option Addr} {sl16 : Array (Option Value)} {oc16 kV16 dc16 pm16 cd16 ct16 : Value}
    {f17 : Addr} {od17 an17 : Option Addr} {sl17 : Array (Option Value)} {oc17 kV17 dc17 pm17 cd17 ct17 : Value}
    {f18 : Addr} {od18 an18 : Option Addr} {sl18 : Array (Option Value)} {oc18 kV18 dc18 pm18 cd18 ct18 : Value}
    {f19 : Addr} {od19 an19 : Option Addr} {sl19 : Array (Option Value)} {oc19 kV19 dc19 pm19 cd19 ct19 : Value}
    {f20 : Addr} {od20 an20 : Option Addr} {sl20 : Array (Option Value)} {oc20 kV20 dc20 pm20 cd20 ct20 : Value}
    {p20 : Addr} {rs20 : List Value}
    {f21 : Addr} {od21 an21 : Option Addr} {sl21 : Array (Option Value)} {oc21 kV21 dc21 pm21 cd21 ct21 : Value}
    {p21 : Addr} {rs21 : List Value}
    {f22 : Addr} {od22 an22 : Option Addr} {sl22 : Array (Option Value)} {oc22 kV22 dc22 pm22 cd22 ct22 : Value}
    {p22 : Addr} {rs22 : List Value}
    {f23 : Addr} {od23 an23 : Option Addr} {sl23 : Array (Option Value)} {oc23 kV23 dc23 pm23 cd23 ct23 : Value}
    {p23 : Addr} {rs23 : List Value}
    {f24 : Addr} {od24 an24 : Option Addr} {sl24 : Array (Option Value)} {oc24 kV24 dc24 pm24 cd24 ct24 : Value}
    {f25 : Addr} {od25 an25 : Option Addr} {sl25 : Array (Option Value)} {oc25 kV25 dc25 pm25 cd25 ct25 : Value}
    {f26 : Addr} {od26 an26 : Option Addr} {sl26 : Array (Option Value)} {oc26 kV26 dc26 pm26 cd26 ct26 : Value}
    {f27 : Addr} {od27 an27 : Option Addr} {sl27 : Array (Option Value)} {oc27 kV27 dc27 pm27 cd27 ct27 : Value}
    {f28 : Addr} {od28 an28 : Option Addr} {sl28 : Array (Option Value)} {oc28 kV28 dc28 pm28 cd28 ct28 : Value}
    {f29 : Addr} {od29 an29 : Option Addr} {sl29 : Array (Option Value)} {oc29 kV29 dc29 pm29 cd29 ct29 : Value}
    {eM e0 e1 e2 e3 e4 e5 e6 e7 e8 e9 e10 e11 e12 e13 e14 e15 e16 e17 e18 : Addr}
    {nm0 q0 : Str} {N0 : Addr} {bs0 bm0 su0 : List Value} {sn0 : List Str} {ab0 : Bool} {co0 : Option Bool} {dd0 : Option Addr} {x0 y0 u0 v0 w0 : Option Value}
    {fi0 ca0 cc0 : Addr} {eo0 eV0 ed0 ep0 et0 ek0 el0 : Value} {ey0 ez0 ew0 eu0 : Option Addr} {es0 er0 eq0 : Array (Option Value)} {ev0 : Array Value} {ef0 : Str} {eg0 : Tok}
    {nm2 q2 : Str} {N2 : Addr} {bs2 bm2 su2 : List Value} {sn2 : List Str} {ab2 : Bool} {co2 : Option Bool} {dd2 : Option Addr} {x2 y2 u2 v2 w2 : Option Value}
    {fi2 ca2 cc2 : Addr} {eo2 eV2 ed2 ep2 et2 ek2 el2 : Value} {ey2 ez2 ew2 eu2 : Option Addr} {es2 er2 eq2 : Array (Option Value)} {ev2 : Array Value} {ef2 : Str} {eg2 : Tok}
    (aC : PySem.W.nsIn K mainGlobals "Table" = some (some (.ref C)))
    (a1 : PySem.W.nsIn K mainGlobals "is_word" = some (some (.ref f1)))
    (l1 : K.lookup f1 = some ⟨oc1, od1, .func (PySem.W.fnOf "is_word" "is_word" (defArgs sIsWord) (defBody sIsWord) (defScope sIsWord) .none kV1 dc1 pm1 an1 cd1 ct1), sl1⟩)
    (c1 : PySem.W.codeIn K cd1 "is_word" = true)
    (k1 : PySem.W.keepIn K (.ref f1) = true)
    (a2 : PySem.W.nsIn K mainGlobals "all_words" = some (some (.ref f2)))
    (l2 : K.lookup f2 = some ⟨oc2, od2, .func (PySem.W.fnOf "all_words" "all_words" (defArgs sAllWords) (defBody sAllWords) (defScope sAllWords) .none kV2 dc2 pm2 an2 cd2 ct2), sl2⟩)
    (c2 : PySem.W.codeIn K cd2 "all_words" = true)
    (k2 : PySem.W.keepIn K (.ref f2) = true)
    (a3 : PySem.W.nsIn K mainGlobals "is_size" = some (some (.ref f3)))
    (l3 : K.lookup f3 = some ⟨oc3, od3, .func (PySem.W.fnOf "is_size" "is_size" (defArgs sIsSize) (defBody sIsSize) (defScope sIsSize) .none kV3 dc3 pm3 an3 cd3 ct3), sl3⟩)
    (c3 : PySem.W.codeIn K cd3 "is_size" = true)
    (k3 : PySem.W.keepIn K (.ref f3) = true)
    (a4 : PySem.W.nsIn K mainGlobals "check_size" = some (some (.ref f4)))
    (l4 : K.lookup f4 = some ⟨oc4, od4, .func (PySem.W.fnOf "check_size" "check_size" (defArgs sCheckSize) (defBody sCheckSize) (defScope sCheckSize) .none kV4 dc4 pm4 an4 cd4 ct4), sl4⟩)
    (c4 : PySem.W.codeIn K cd4 "check_size" = true)
    (k4 : PySem.W.keepIn K (.ref f4) = true)
    (a5 : PySem.W.nsIn K mainGlobals "check_word" = some (some (.ref f5)))
    (l5 : K.lookup f5 = some ⟨oc5, od5, .func (PySem.W.fnOf "check_word" "check_word" (defArgs sCheckWord) (defBody sCheckWord) (defScope sCheckWord) .none kV5 dc5 pm5 an5 cd5 ct5), sl5⟩)
    (c5 : PySem.W.codeIn K cd5 "check_word" = true)
    (k5 : PySem.W.keepIn K (.ref f5) = true)
    (a6 : PySem.W.nsIn K mainGlobals "ascending" = some (some (.ref f6)))
    (l6 : K.lookup f6 = some ⟨oc6, od6, .func (PySem.W.fnOf "ascending" "ascending" (defArgs sAsc) (defBody sAsc) (defScope sAsc) .none kV6 dc6 pm6 an6 cd6 ct6), sl6⟩)
    (c6 : PySem.W.codeIn K cd6 "ascending" = true)
    (k6 : PySem.W.keepIn K (.ref f6) = true)
    (a7 : PySem.W.findIn K (.ref C) "__init__" = some (some (.ref f7)))
    (i7 : PySem.W.isFn K (.ref f7) = true)
    (l7 : K.lookup f7 = some ⟨oc7, od7, .func (PySem.W.fnOf "__init__" "Table.__init__" (defArgs sInit) (defBody sInit) (defScope sInit) .none kV7 dc7 pm7 an7 cd7 ct7), sl7⟩)
    (c7 : PySem.W.codeIn K cd7 "Table.__init__" = true)
    (k7 : PySem.W.keepIn K (.ref f7) = true)
    (a8 : PySem.W.findIn K (.ref C) "rows" = some (some (.ref f8)))
    (i8 : PySem.W.isFn K (.ref f8) = true)
    (l8 : K.lookup f8 = some ⟨oc8, od8, .func (PySem.W.fnOf "rows" "Table.rows" (defArgs sRows) (defBody sRows) (defScope sRows) .none kV8 dc8 pm8 an8 cd8 ct8), sl8⟩)
    (c8 : PySem.W.codeIn K cd8 "Table.rows" = true)
    (k8 : PySem.W.keepIn K (.ref f8) = true)
    (a9 : PySem.W.nsIn K mainGlobals "_law_box" = some (some (.ref f9)))
    (l9 : K.lookup f9 = some ⟨oc9, od9, .func (PySem.W.fnOf "_law_box" "_law_box" (defArgs sBox) (defBody sBox) (defScope sBox) .none kV9 dc9 pm9 an9 cd9 ct9), sl9⟩)
    (c9 : PySem.W.codeIn K cd9 "_law_box" = true)
    (k9 : PySem.W.keepIn K (.ref f9) = true)
    (a10 : PySem.W.nsIn K mainGlobals "_law_take" = some (some (.ref f10)))
    (l10 : K.lookup f10 = some ⟨oc10, od10, .func (PySem.W.fnOf "_law_take" "_law_take" (defArgs sTake) (defBody sTake) (defScope sTake) .none kV10 dc10 pm10 an10 cd10 ct10), sl10⟩)
    (c10 : PySem.W.codeIn K cd10 "_law_take" = true)
    (k10 : PySem.W.keepIn K (.ref f10) = true)
    (a11 : PySem.W.nsIn K mainGlobals "_law_words" = some (some (.ref f11)))
    (l11 : K.lookup f11 = some ⟨oc11, od11, .func (PySem.W.fnOf "_law_words" "_law_words" (defArgs sWords) (defBody sWords) (defScope sWords) .none kV11 dc11 pm11 an11 cd11 ct11), sl11⟩)
    (c11 : PySem.W.codeIn K cd11 "_law_words" = true)
    (k11 : PySem.W.keepIn K (.ref f11) = true)
    (a12 : PySem.W.nsIn K mainGlobals "_law_rows" = some (some (.ref f12)))
    (l12 : K.lookup f12 = some ⟨oc12, od12, .func (PySem.W.fnOf "_law_rows" "_law_rows" (defArgs sRowsL) (defBody sRowsL) (defScope sRowsL) .none kV12 dc12 pm12 an12 cd12 ct12), sl12⟩)
    (c12 : PySem.W.codeIn K cd12 "_law_rows" = true)
    (k12 : PySem.W.keepIn K (.ref f12) = true)
    (a13 : PySem.W.nsIn K mainGlobals "_law_is_int" = some (some (.ref f13)))
    (l13 : K.lookup f13 = some ⟨oc13, od13, .func (PySem.W.fnOf "_law_is_int" "_law_is_int" (defArgs sIsInt) (defBody sIsInt) (defScope sIsInt) .none kV13 dc13 pm13 an13 cd13 ct13), sl13⟩)
    (c13 : PySem.W.codeIn K cd13 "_law_is_int" = true)
    (k13 : PySem.W.keepIn K (.ref f13) = true)
    (a14 : PySem.W.nsIn K mainGlobals "_law_is_words" = some (some (.ref f14)))
    (l14 : K.lookup f14 = some ⟨oc14, od14, .func (PySem.W.fnOf "_law_is_words" "_law_is_words" (defArgs sIsWords) (defBody sIsWords) (defScope sIsWords) .none kV14 dc14 pm14 an14 cd14 ct14), sl14⟩)
    (c14 : PySem.W.codeIn K cd14 "_law_is_words" = true)
    (k14 : PySem.W.keepIn K (.ref f14) = true)
    (a15 : PySem.W.nsIn K mainGlobals "_law_same" = some (some (.ref f15)))
    (l15 : K.lookup f15 = some ⟨oc15, od15, .func (PySem.W.fnOf "_law_same" "_law_same" (defArgs sSame) (defBody sSame) (defScope sSame) .none kV15 dc15 pm15 an15 cd15 ct15), sl15⟩)
    (c15 : PySem.W.codeIn K cd15 "_law_same" = true)
    (k15 : PySem.W.keepIn K (.ref f15) = true)
    (a16 : PySem.W.nsIn K mainGlobals "_law_single" = some (some (.ref f16)))
    (l16 : K.lookup f16 = some ⟨oc16, od16, .func (PySem.W.fnOf "_law_single" "_law_single" (defArgs sSingle) (defBody sSingle) (defScope sSingle) .none kV16 dc16 pm16 an16 cd16 ct16), sl16⟩)
    (c16 : PySem.W.codeIn K cd16 "_law_single" = true)
    (k16 : PySem.W.keepIn K (.ref f16) = true)
    (a17 : PySem.W.nsIn K mainGlobals "check_words" = some (some (.ref f17)))
    (l17 : K.lookup f17 = some ⟨oc17, od17, .func (PySem.W.fnOf "check_words" "check_words" (defArgs sCheckWords) (defBody sCheckWords) (defScope sCheckWords) .none kV17 dc17 pm17 an17 cd17 ct17), sl17⟩)
    (c17 : PySem.W.codeIn K cd17 "check_words" = true)
    (k17 : PySem.W.keepIn K (.ref f17) = true)
    (a18 : PySem.W.nsIn K mainGlobals "_law_far" = some (some (.ref f18)))
    (l18 : K.lookup f18 = some ⟨oc18, od18, .func (PySem.W.fnOf "_law_far" "_law_far" (defArgs sFar) (defBody sFar) (defScope sFar) .none kV18 dc18 pm18 an18 cd18 ct18), sl18⟩)
    (c18 : PySem.W.codeIn K cd18 "_law_far" = true)
    (k18 : PySem.W.keepIn K (.ref f18) = true)
    (a19 : PySem.W.findIn K (.ref C) "__iter__" = some (some (.ref f19)))
    (i19 : PySem.W.isFn K (.ref f19) = true)
    (l19 : K.lookup f19 = some ⟨oc19, od19, .func (PySem.W.fnOf "__iter__" "Table.__iter__" (defArgs sIter) (defBody sIter) (defScope sIter) .none kV19 dc19 pm19 an19 cd19 ct19), sl19⟩)
    (c19 : PySem.W.codeIn K cd19 "Table.__iter__" = true)
    (k19 : PySem.W.keepIn K (.ref f19) = true)
    (a20 : PySem.W.findCls K (.ref C) (.type "type") "identity" = some (.get (.builtin "classmethod.__get__") (.ref p20) .none (.ref C)))
    (r20 : PySem.W.recIn K p20 "classmethod" = some (.ref f20 :: rs20))
    (n20 : PySem.W.fnIn K f20 = true)
    (l20 : K.lookup f20 = some ⟨oc20, od20, .func (PySem.W.fnOf "identity" "Table.identity" (defArgs sIdent) (defBody sIdent) (defScope sIdent) .none kV20 dc20 pm20 an20 cd20 ct20), sl20⟩)
    (c20 : PySem.W.codeIn K cd20 "Table.identity" = true)
    (k20 : PySem.W.keepIn K (.ref f20) = true)
    (a21 : PySem.W.findCls K (.ref C) (.type "type") "full" = some (.get (.builtin "classmethod.__get__") (.ref p21) .none (.ref C)))
    (r21 : PySem.W.recIn K p21 "classmethod" = some (.ref f21 :: rs21))
    (n21 : PySem.W.fnIn K f21 = true)
    (l21 : K.lookup f21 = some ⟨oc21, od21, .func (PySem.W.fnOf "full" "Table.full" (defArgs sFull) (defBody sFull) (defScope sFull) .none kV21 dc21 pm21 an21 cd21 ct21), sl21⟩)
    (c21 : PySem.W.codeIn K cd21 "Table.full" = true)
    (k21 : PySem.W.keepIn K (.ref f21) = true)
    (a22 : PySem.W.findCls K (.ref C) (.type "type") "empty" = some (.get (.builtin "classmethod.__get__") (.ref p22) .none (.ref C)))
    (r22 : PySem.W.recIn K p22 "classmethod" = some (.ref f22 :: rs22))
    (n22 : PySem.W.fnIn K f22 = true)
    (l22 : K.lookup f22 = some ⟨oc22, od22, .func (PySem.W.fnOf "empty" "Table.empty" (defArgs sEmpty) (defBody sEmpty) (defScope sEmpty) .none kV22 dc22 pm22 an22 cd22 ct22), sl22⟩)
    (c22 : PySem.W.codeIn K cd22 "Table.empty" = true)
    (k22 : PySem.W.keepIn K (.ref f22) = true)
    (a23 : PySem.W.findCls K (.ref C) (.type "type") "of" = some (.get (.builtin "staticmethod.__get__") (.ref p23) .none (.ref C)))
    (r23 : PySem.W.recIn K p23 "staticmethod" = some (.ref f23 :: rs23))
    (l23 : K.lookup f23 = some ⟨oc23, od23, .func (PySem.W.fnOf "of" "Table.of" (defArgs sOf) (defBody sOf) (defScope sOf) .none kV23 dc23 pm23 an23 cd23 ct23), sl23⟩)
    (c23 : PySem.W.codeIn K cd23 "Table.of" = true)
    (k23 : PySem.W.keepIn K (.ref f23) = true)
    (a24 : PySem.W.nsIn K mainGlobals "_law_same_rows" = some (some (.ref f24)))
    (l24 : K.lookup f24 = some ⟨oc24, od24, .func (PySem.W.fnOf "_law_same_rows" "_law_same_rows" (defArgs sSameR) (defBody sSameR) (defScope sSameR) .none kV24 dc24 pm24 an24 cd24 ct24), sl24⟩)
    (c24 : PySem.W.codeIn K cd24 "_law_same_rows" = true)
    (k24 : PySem.W.keepIn K (.ref f24) = true)
    (a25 : PySem.W.nsIn K mainGlobals "_law_pairs" = some (some (.ref f25)))
    (l25 : K.lookup f25 = some ⟨oc25, od25, .func (PySem.W.fnOf "_law_pairs" "_law_pairs" (defArgs sPairsL) (defBody sPairsL) (defScope sPairsL) .none kV25 dc25 pm25 an25 cd25 ct25), sl25⟩)
    (c25 : PySem.W.codeIn K cd25 "_law_pairs" = true)
    (k25 : PySem.W.keepIn K (.ref f25) = true)
    (a26 : PySem.W.nsIn K mainGlobals "_law_mixed" = some (some (.ref f26)))
    (l26 : K.lookup f26 = some ⟨oc26, od26, .func (PySem.W.fnOf "_law_mixed" "_law_mixed" (defArgs sMixed) (defBody sMixed) (defScope sMixed) .none kV26 dc26 pm26 an26 cd26 ct26), sl26⟩)
    (c26 : PySem.W.codeIn K cd26 "_law_mixed" = true)
    (k26 : PySem.W.keepIn K (.ref f26) = true)
    (a27 : PySem.W.nsIn K mainGlobals "_law_smaller" = some (some (.ref f27)))
    (l27 : K.lookup f27 = some ⟨oc27, od27, .func (PySem.W.fnOf "_law_smaller" "_law_smaller" (defArgs sSmaller) (defBody sSmaller) (defScope sSmaller) .none kV27 dc27 pm27 an27 cd27 ct27), sl27⟩)
    (c27 : PySem.W.codeIn K cd27 "_law_smaller" = true)
    (k27 : PySem.W.keepIn K (.ref f27) = true)
    (a28 : PySem.W.nsIn K mainGlobals "_law_made_error" = some (some (.ref f28)))
    (l28 : K.lookup f28 = some ⟨oc28, od28, .func (PySem.W.fnOf "_law_made_error" "_law_made_error" (defArgs sMadeErr) (defBody sMadeErr) (defScope sMadeErr) .none kV28 dc28 pm28 an28 cd28 ct28), sl28⟩)
    (c28 : PySem.W.codeIn K cd28 "_law_made_error" = true)
    (k28 : PySem.W.keepIn K (.ref f28) = true)
    (a29 : PySem.W.nsIn K mainGlobals "law" = some (some (.ref f29)))
    (l29 : K.lookup f29 = some ⟨oc29, od29, .func (PySem.W.fnOf "law" "law" (defArgs sLaw) (defBody sLaw) (defScope sLaw) .none kV29 dc29 pm29 an29 cd29 ct29), sl29⟩)
    (c29 : PySem.W.codeIn K cd29 "law" = true)
    (k29 : PySem.W.keepIn K (.ref f29) = true)
    (pg : PySem.W.plainGet K C Str.empty = true)
    (hd : PySem.W.hasDictIn K C = true)
    (po : PySem.W.plainOver K C = true)
    (sa : PySem.W.findIn K (.ref C) "__setattr__" = some (some (.builtin "object.__setattr__")))
    (mk : PySem.W.makesIn K C = true)
    (kc : PySem.W.keepIn K (.ref C) = true)
    (nS : PySem.W.findIn K (.ref C) "size" = some none)
    (nR : PySem.W.findIn K (.ref C) "_rows" = some none)
    (nP : PySem.W.findIn K (.ref C) "_pairs" = some none)
    (rd : PySem.W.readsIn K C (.type "type") = true)
    (rg : PySem.W.specialIn K (.ref C) "__getattribute__" = some (some (.builtin "type.__getattribute__")))
    (ms : PySem.W.findCls K (.ref C) (.type "type") "MOST" = some (.val (.int 6 tM)))
    (ia : PySem.W.findIn K (.ref C) "__class__" = some (some (.builtin "object.__class__")))
    (ic : PySem.W.specialIn K (.builtin "object.__class__") "__get__" = some (some (.builtin "getset_descriptor.__get__")))
    (it : PySem.W.takesIn K (.builtin "object.__class__") = some true)
    (im : PySem.W.mroIn K C (.type "object") = some true)
    (sf : PySem.W.selfFirst K C = true)
    (nf : PySem.W.notFirst K C (.ref C) = true)
    (z_len : PySem.W.nsIn K mainGlobals "len" = some none)
    (z_range : PySem.W.nsIn K mainGlobals "range" = some none)
    (z_all : PySem.W.nsIn K mainGlobals "all" = some none)
    (z_list : PySem.W.nsIn K mainGlobals "list" = some none)
    (z_tuple : PySem.W.nsIn K mainGlobals "tuple" = some none)
    (z_enumerate : PySem.W.nsIn K mainGlobals "enumerate" = some none)
    (z_isinstance : PySem.W.nsIn K mainGlobals "isinstance" = some none)
    (z_int : PySem.W.nsIn K mainGlobals "int" = some none)
    (z_bool : PySem.W.nsIn K mainGlobals "bool" = some none)
    (z_str : PySem.W.nsIn K mainGlobals "str" = some none)
    (z_abs : PySem.W.nsIn K mainGlobals "abs" = some none)
    (z_iter : PySem.W.nsIn K mainGlobals "iter" = some none)
    (z_sorted : PySem.W.nsIn K mainGlobals "sorted" = some none)
    (z_ValueError : PySem.W.nsIn K mainGlobals "ValueError" = some none)
    (z_super : PySem.W.nsIn K mainGlobals "super" = some none)
    (gM : PySem.W.nsIn K mainGlobals "MurmurError" = some (some (.ref eM)))
    (bM : PySem.W.isClsIn K eM = true)
    (tM_ : PySem.W.typeIn K (.ref eM) = some (.type "type"))
    (g0_ : PySem.W.nsIn K mainGlobals "BadSize" = some (some (.ref e0)))
    (b0_ : PySem.W.isClsIn K e0 = true)
    (t0_ : PySem.W.typeIn K (.ref e0) = some (.type "type"))
    (g1_ : PySem.W.nsIn K mainGlobals "BadTable" = some (some (.ref e1)))
    (b1_ : PySem.W.isClsIn K e1 = true)
    (t1_ : PySem.W.typeIn K (.ref e1) = some (.type "type"))
    (g2_ : PySem.W.nsIn K mainGlobals "UnknownWord" = some (some (.ref e2)))
    (b2_ : PySem.W.isClsIn K e2 = true)
    (t2_ : PySem.W.typeIn K (.ref e2) = some (.type "type"))
    (g3_ : PySem.W.nsIn K mainGlobals "SizeMismatch" = some (some (.ref e3)))
    (b3_ : PySem.W.isClsIn K e3 = true)
    (t3_ : PySem.W.typeIn K (.ref e3) = some (.type "type"))
    (g4_ : PySem.W.nsIn K mainGlobals "BadCount" = some (some (.ref e4)))
    (b4_ : PySem.W.isClsIn K e4 = true)
    (t4_ : PySem.W.typeIn K (.ref e4) = some (.type "type"))
    (g5_ : PySem.W.nsIn K mainGlobals "BadPerson" = some (some (.ref e5)))
    (b5_ : PySem.W.isClsIn K e5 = true)
    (t5_ : PySem.W.typeIn K (.ref e5) = some (.type "type"))
    (g6_ : PySem.W.nsIn K mainGlobals "BadLetter" = some (some (.ref e6)))
    (b6_ : PySem.W.isClsIn K e6 = true)
    (t6_ : PySem.W.typeIn K (.ref e6) = some (.type "type"))
    (g7_ : PySem.W.nsIn K mainGlobals "UnknownPerson" = some (some (.ref e7)))
    (b7_ : PySem.W.isClsIn K e7 = true)
    (t7_ : PySem.W.typeIn K (.ref e7) = some (.type "type"))
    (g8_ : PySem.W.nsIn K mainGlobals "TooMany" = some (some (.ref e8)))
    (b8_ : PySem.W.isClsIn K e8 = true)
    (t8_ : PySem.W.typeIn K (.ref e8) = some (.type "type"))
    (g9_ : PySem.W.nsIn K mainGlobals "BadPattern" = some (some (.ref e9)))
    (b9_ : PySem.W.isClsIn K e9 = true)
    (t9_ : PySem.W.typeIn K (.ref e9) = some (.type "type"))
    (g10_ : PySem.W.nsIn K mainGlobals "SameWord" = some (some (.ref e10)))
    (b10_ : PySem.W.isClsIn K e10 = true)
    (t10_ : PySem.W.typeIn K (.ref e10) = some (.type "type"))
    (g11_ : PySem.W.nsIn K mainGlobals "UnknownClue" = some (some (.ref e11)))
    (b11_ : PySem.W.isClsIn K e11 = true)
    (t11_ : PySem.W.typeIn K (.ref e11) = some (.type "type"))
    (g12_ : PySem.W.nsIn K mainGlobals "BadPlace" = some (some (.ref e12)))
    (b12_ : PySem.W.isClsIn K e12 = true)
    (t12_ : PySem.W.typeIn K (.ref e12) = some (.type "type"))
    (g13_ : PySem.W.nsIn K mainGlobals "TooLong" = some (some (.ref e13)))
    (b13_ : PySem.W.isClsIn K e13 = true)
    (t13_ : PySem.W.typeIn K (.ref e13) = some (.type "type"))
    (g14_ : PySem.W.nsIn K mainGlobals "Melted" = some (some (.ref e14)))
    (b14_ : PySem.W.isClsIn K e14 = true)
    (t14_ : PySem.W.typeIn K (.ref e14) = some (.type "type"))
    (g15_ : PySem.W.nsIn K mainGlobals "NothingToUndo" = some (some (.ref e15)))
    (b15_ : PySem.W.isClsIn K e15 = true)
    (t15_ : PySem.W.typeIn K (.ref e15) = some (.type "type"))
    (g16_ : PySem.W.nsIn K mainGlobals "NothingToRedo" = some (some (.ref e16)))
    (b16_ : PySem.W.isClsIn K e16 = true)
    (t16_ : PySem.W.typeIn K (.ref e16) = some (.type "type"))
    (g17_ : PySem.W.nsIn K mainGlobals "Refused" = some (some (.ref e17)))
    (b17_ : PySem.W.isClsIn K e17 = true)
    (t17_ : PySem.W.typeIn K (.ref e17) = some (.type "type"))
    (g18_ : PySem.W.nsIn K mainGlobals "BadLine" = some (some (.ref e18)))
    (b18_ : PySem.W.isClsIn K e18 = true)
    (t18_ : PySem.W.typeIn K (.ref e18) = some (.type "type"))
    (stn : PySem.W.nsIn K cStatics "thirdparty.any" = some none)
    (top_ : (l.prog.main.scope.names.lookup ("super" : Str)).isSome = false)
    (lC0 : K.lookup e0 = some (excClassObj nm0 q0 e0 N0 bs0 bm0 true sn0 su0 ab0 co0 dd0 x0 y0 u0 v0 w0 "ValueError.__new__"))
    (rV0 : PySem.HandSPX.refsVE bm0 = true)
    (sa0 : PySem.W.findIn K (.ref e0) "__setattr__" = some (some (.builtin "object.__setattr__")))
    (ex0 : PySem.W.subIn K (.ref e0) (.type "BaseException") = some true)
    (kC0 : PySem.W.keepIn K (.ref e0) = true)
    (se0 : PySem.W.mroIn K e0 (.ref e0) = some true)
    (vE0 : PySem.W.subIn K (.ref e0) (.type "ValueError") = some true)
    (al0 : PySem.W.ks_superIn K e0 e0 "__init__" = some (some (.builtin "ValueError.__init__")))
    (iI0 : PySem.W.findIn K (.ref e0) "__init__" = some (some (.ref fi0)))
    (tI0 : PySem.W.typeIn K (.ref fi0) = some (.type "function"))
    (lk0 : K.lookup fi0 = some ⟨eo0, ey0, .func (PySem.W.ksFn "__init__" "BadSize.__init__" (defArgs sBadSizeI) (defBody sBadSizeI) (defScope sBadSizeI) .none eV0 ed0 ep0 ez0 (.ref ca0) et0 cc0), es0⟩)
    (cd0_ : PySem.W.codeIn K (.ref ca0) "BadSize.__init__" = true)
    (lc0 : K.lookup ca0 = some ⟨ek0, ew0, .fields ev0, er0⟩)
    (vs0 : ev0[2]? = some (.str ef0 eg0))
    (fl0 : ((l.prog.main.file : Str) == ef0) = true)
    (ce0 : K.lookup cc0 = some ⟨el0, eu0, .cell (some (.ref e0)), eq0⟩)
    (no0_0 : PySem.W.findIn K (.ref e0) "size" = some none)
    (xg0 : PySem.W.findIn K (.ref e0) "__getattribute__" = some (some (.builtin "BaseException.__getattribute__")))
    (xk0 : PySem.W.findIn K (.ref e0) "__getattr__" = some none)
    (xd0 : PySem.W.hasDictIn K e0 = true)
    (xa0 : PySem.W.findIn K (.ref e0) "__class__" = some (some (.builtin "object.__class__")))
    (xm0 : PySem.W.mroIn K e0 (.type "object") = some true)
    (sM0 : PySem.W.subIn K (.ref e0) (.ref eM) = some true)
    (s0_0 : PySem.W.subIn K (.ref e0) (.ref e0) = some true)
    (s0_1 : PySem.W.subIn K (.ref e0) (.ref e1) = some false)
    (s0_2 : PySem.W.subIn K (.ref e0) (.ref e2) = some false)
    (s0_3 : PySem.W.subIn K (.ref e0) (.ref e3) = some false)
    (s0_4 : PySem.W.subIn K (.ref e0) (.ref e4) = some false)
    (s0_5 : PySem.W.subIn K (.ref e0) (.ref e5) = some false)
    (s0_6 : PySem.W.subIn K (.ref e0) (.ref e6) = some false)
    (s0_7 : PySem.W.subIn K (.ref e0) (.ref e7) = some false)
    (s0_8 : PySem.W.subIn K (.ref e0) (.ref e8) = some false)
    (s0_9 : PySem.W.subIn K (.ref e0) (.ref e9) = some false)
    (s0_10 : PySem.W.subIn K (.ref e0) (.ref e10) = some false)
    (s0_11 : PySem.W.subIn K (.ref e0) (.ref e11) = some false)
    (s0_12 : PySem.W.subIn K (.ref e0) (.ref e12) = some false)
    (s0_13 : PySem.W.subIn K (.ref e0) (.ref e13) = some false)
    (s0_14 : PySem.W.subIn K (.ref e0) (.ref e14) = some false)
    (s0_15 : PySem.W.subIn K (.ref e0) (.ref e15) = some false)
    (s0_16 : PySem.W.subIn K (.ref e0) (.ref e16) = some false)
    (s0_17 : PySem.W.subIn K (.ref e0) (.ref e17) = some false)
    (s0_18 : PySem.W.subIn K (.ref e0) (.ref e18) = some false)
    (lC2 : K.lookup e2 = some (excClassObj nm2 q2 e2 N2 bs2 bm2 true sn2 su2 ab2 co2 dd2 x2 y2 u2 v2 w2 "ValueError.__new__"))
    (rV2 : PySem.HandSPX.refsVE bm2 = true)
    (sa2 : PySem.W.findIn K (.ref e2) "__setattr__" = some (some (.builtin "object.__setattr__")))
    (ex2 : PySem.W.subIn K (.ref e2) (.type "BaseException") = some true)
    (kC2 : PySem.W.keepIn K (.ref e2) = true)
    (se2 : PySem.W.mroIn K e2 (.ref e2) = some true)
    (vE2 : PySem.W.subIn K (.ref e2) (.type "ValueError") = some true)
    (al2 : PySem.W.ks_superIn K e2 e2 "__init__" = some (some (.builtin "ValueError.__init__")))
    (iI2 : PySem.W.findIn K (.ref e2) "__init__" = some (some (.ref fi2)))
    (tI2 : PySem.W.typeIn K (.ref fi2) = some (.type "function"))
    (lk2 : K.lookup fi2 = some ⟨eo2, ey2, .func (PySem.W.ksFn "__init__" "UnknownWord.__init__" (defArgs sUnknownWordI) (defBody sUnknownWordI) (defScope sUnknownWordI) .none eV2 ed2 ep2 ez2 (.ref ca2) et2 cc2), es2⟩)
    (cd2_ : PySem.W.codeIn K (.ref ca2) "UnknownWord.__init__" = true)
    (lc2 : K.lookup ca2 = some ⟨ek2, ew2, .fields ev2, er2⟩)
    (vs2 : ev2[2]? = some (.str ef2 eg2))
    (fl2 : ((l.prog.main.file : Str) == ef2) = true)
    (ce2 : K.lookup cc2 = some ⟨el2, eu2, .cell (some (.ref e2)), eq2⟩)
    (no2_0 : PySem.W.findIn K (.ref e2) "word" = some none)
    (xg2 : PySem.W.findIn K (.ref e2) "__getattribute__" = some (some (.builtin "BaseException.__getattribute__")))
    (xk2 : PySem.W.findIn K (.ref e2) "__getattr__" = some none)
    (xd2 : PySem.W.hasDictIn K e2 = true)
    (xa2 : PySem.W.findIn K (.ref e2) "__class__" = some (some (.builtin "object.__class__")))
    (xm2 : PySem.W.mroIn K e2 (.type "object") = some true)
    (sM2 : PySem.W.subIn K (.ref e2) (.ref eM) = some true)
    (s2_0 : PySem.W.subIn K (.ref e2) (.ref e0) = some false)
    (s2_1 : PySem.W.subIn K (.ref e2) (.ref e1) = some false)
    (s2_2 : PySem.W.subIn K (.ref e2) (.ref e2) = some true)
    (s2_3 : PySem.W.subIn K (.ref e2) (.ref e3) = some false)
    (s2_4 : PySem.W.subIn K (.ref e2) (.ref e4) = some false)
    (s2_5 : PySem.W.subIn K (.ref e2) (.ref e5) = some false)
    (s2_6 : PySem.W.subIn K (.ref e2) (.ref e6) = some false)
    (s2_7 : PySem.W.subIn K (.ref e2) (.ref e7) = some false)
    (s2_8 : PySem.W.subIn K (.ref e2) (.ref e8) = some false)
    (s2_9 : PySem.W.subIn K (.ref e2) (.ref e9) = some false)
    (s2_10 : PySem.W.subIn K (.ref e2) (.ref e10) = some false)
    (s2_11 : PySem.W.subIn K (.ref e2) (.ref e11) = some false)
    (s2_12 : PySem.W.subIn K (.ref e2) (.ref e12) = some false)
    (s2_13 : PySem.W.subIn K (.ref e2) (.ref e13) = some false)
    (s2_14 : PySem.W.subIn K (.ref e2) (.ref e14) = some false)
    (s2_15 : PySem.W.subIn K (.ref e2) (.ref e15) = some false)
    (s2_16 : PySem.W.subIn K (.ref e2) (.ref e16) = some false)
    (s2_17 : PySem.W.subIn K (.ref e2) (.ref e17) = some false)
    (s2_18 : PySem.W.subIn K (.ref e2) (.ref e18) = some false)
    : ∃ fd : FuncData, (∀ (s : Shared) (v : Value), BindsTo s fd ⟨[v], []⟩ [("_law_script", v)]) ∧ ∀ base : Heap, K.In base → base.Ns mainGlobals mg → FnOk l.prog w K mg base CX0 10 fa fd ["_law_script"] (spLaw K) := by
  have e := hfa.symm.trans (PySem.W.mg_of X G a29)
  cases e
  have F1 := fun_mk (st := sIsWord) l1 c1 k1
  have b1 := F1.binds (ps := ["word", "size"]) fun _ _ _ _ _ _ us hl => match us, hl with | [_, _], _ => rfl
  have F2 := fun_mk (st := sAllWords) l2 c2 k2
  have b2 := F2.binds (ps := ["words", "size"]) fun _ _ _ _ _ _ us hl => match us, hl with | [_, _], _ => rfl
  have F3 := fun_mk (st := sIsSize) l3 c3 k3
  have b3 := F3.binds (ps := ["size"]) fun _ _ _ _ _ _ us hl => match us, hl with | [_], _ => rfl
  have F4 := fun_mk (st := sCheckSize) l4 c4 k4
  have b4 := F4.binds (ps := ["size"]) fun _ _ _ _ _ _ us hl => match us, hl with | [_], _ => rfl
  have F5 := fun_mk (st := sCheckWord) l5 c5 k5
  have b5 := F5.binds (ps := ["word", "size"]) fun _ _ _ _ _ _ us hl => match us, hl with | [_, _], _ => rfl
  have F6 := fun_mk (st := sAsc) l6 c6 k6
  have b6 := F6.binds (ps := ["words", "size"]) fun _ _ _ _ _ _ us hl => match us, hl with | [_, _], _ => rfl
  have F7 := fun_mk (st := sInit) l7 c7 k7
  have b7 := F7.binds (ps := ["self", "rows"]) fun _ _ _ _ _ _ us hl => match us, hl with | [_, _], _ => rfl
  have F8 := fun_mk (st := sRows) l8 c8 k8
  have b8 := F8.binds (ps := ["self"]) fun _ _ _ _ _ _ us hl => match us, hl with | [_], _ => rfl
  have F9 := fun_mk (st := sBox) l9 c9 k9
  have b9 := F9.binds (ps := ["_law_script"]) fun _ _ _ _ _ _ us hl => match us, hl with | [_], _ => rfl
  have F10 := fun_mk (st := sTake) l10 c10 k10
  have b10 := F10.binds (ps := ["_law_box_here", "_law_many"]) fun _ _ _ _ _ _ us hl => match us, hl with | [_, _], _ => rfl
  have F11 := fun_mk (st := sWords) l11 c11 k11
  have b11 := F11.binds (ps := ["_law_box_here", "_law_n", "_law_least"]) fun _ _ _ _ _ _ us hl => match us, hl with | [_, _, _], _ => rfl
  have F12 := fun_mk (st := sRowsL) l12 c12 k12
  have b12 := F12.binds (ps := ["_law_box_here", "_law_n", "_law_least"]) fun _ _ _ _ _ _ us hl => match us, hl with | [_, _, _], _ => rfl
  have F13 := fun_mk (st := sIsInt) l13 c13 k13
  have b13 := F13.binds (ps := ["_law_value"]) fun _ _ _ _ _ _ us hl => match us, hl with | [_], _ => rfl
  have F14 := fun_mk (st := sIsWords) l14 c14 k14
  have b14 := F14.binds (ps := ["_law_value"]) fun _ _ _ _ _ _ us hl => match us, hl with | [_], _ => rfl
  have F15 := fun_mk (st := sSame) l15 c15 k15
  have b15 := F15.binds (ps := ["_law_table", "_law_rows_here"]) fun _ _ _ _ _ _ us hl => match us, hl with | [_, _], _ => rfl
  have F16 := fun_mk (st := sSingle) l16 c16 k16
  have b16 := F16.binds (ps := ["_law_e"]) fun _ _ _ _ _ _ us hl => match us, hl with | [_], _ => rfl
  have F17 := fun_mk (st := sCheckWords) l17 c17 k17
  have b17 := F17.binds (ps := ["words", "size"]) fun _ _ _ _ _ _ us hl => match us, hl with | [_, _], _ => rfl
  have F18 := fun_mk (st := sFar) l18 c18 k18
  have b18 := F18.binds (ps := ["_law_box_here", "_law_n"]) fun _ _ _ _ _ _ us hl => match us, hl with | [_, _], _ => rfl
  have F19 := fun_mk (st := sIter) l19 c19 k19
  have b19 := F19.binds (ps := ["self"]) fun _ _ _ _ _ _ us hl => match us, hl with | [_], _ => rfl
  have F20 := fun_mk (st := sIdent) l20 c20 k20
  have b20 := F20.binds (ps := ["cls", "size"]) fun _ _ _ _ _ _ us hl => match us, hl with | [_, _], _ => rfl
  have F21 := fun_mk (st := sFull) l21 c21 k21
  have b21 := F21.binds (ps := ["cls", "size"]) fun _ _ _ _ _ _ us hl => match us, hl with | [_, _], _ => rfl
  have F22 := fun_mk (st := sEmpty) l22 c22 k22
  have b22 := F22.binds (ps := ["cls", "size"]) fun _ _ _ _ _ _ us hl => match us, hl with | [_, _], _ => rfl
  have F23 := fun_mk (st := sOf) l23 c23 k23
  have b23 := F23.binds (ps := ["size", "pairs"]) fun _ _ _ _ _ _ us hl => match us, hl with | [_, _], _ => rfl
  have F24 := fun_mk (st := sSameR) l24 c24 k24
  have b24 := F24.binds (ps := ["_law_n"]) fun _ _ _ _ _ _ us hl => match us, hl with | [_], _ => rfl
  have F25 := fun_mk (st := sPairsL) l25 c25 k25
  have b25 := F25.binds (ps := ["_law_rows_here"]) fun _ _ _ _ _ _ us hl => match us, hl with | [_], _ => rfl
  have F26 := fun_mk (st := sMixed) l26 c26 k26
  have b26 := F26.binds (ps := ["_law_box_here", "_law_words_here"]) fun _ _ _ _ _ _ us hl => match us, hl with | [_, _], _ => rfl
  have F27 := fun_mk (st := sSmaller) l27 c27 k27
  have b27 := F27.binds (ps := ["_law_table", "_law_pairs_here"]) fun _ _ _ _ _ _ us hl => match us, hl with | [_, _], _ => rfl
  have F28 := fun_mk (st := sMadeErr) l28 c28 k28
  have b28 := F28.binds (ps := ["_law_which", "_law_n", "_law_pairs_here"]) fun _ _ _ _ _ _ us hl => match us, hl with | [_, _, _], _ => rfl
  have F29 := fun_mk (st := sLaw) l29 c29 k29
  have B : Bt mg := ⟨(PySem.W.mg_none_of X G z_len), (PySem.W.mg_none_of X G z_range), (PySem.W.mg_none_of X G z_all), (PySem.W.mg_none_of X G z_list), (PySem.W.mg_none_of X G z_tuple), (PySem.W.mg_none_of X G z_enumerate), (PySem.W.mg_none_of X G z_isinstance), (PySem.W.mg_none_of X G z_int), (PySem.W.mg_none_of X G z_bool), (PySem.W.mg_none_of X G z_str), (PySem.W.mg_none_of X G z_abs)⟩
  have T : CT K mg C := ⟨PySem.W.mg_of X G aC, ⟨pg, hd, po, sa⟩, ⟨rd, rg⟩, ⟨_, ms⟩, nS, nR, nP⟩
  have I : C8.InsC K C := ⟨⟨pg, hd, po, sa⟩, ia, ic, it, im, by unfold PySem.W.kitOne; rw [if_pos (by simp)]⟩
  have EG : ErrG mg ⟨eM, e0, e1, e2, e3, e4, e5, e6, e7, e8, e9, e10, e11, e12, e13, e14, e15, e16, e17, e18⟩ := ⟨PySem.W.mg_of X G gM, PySem.W.mg_of X G g0_, PySem.W.mg_of X G g1_, PySem.W.mg_of X G g2_, PySem.W.mg_of X G g3_, PySem.W.mg_of X G g4_, PySem.W.mg_of X G g5_, PySem.W.mg_of X G g6_, PySem.W.mg_of X G g7_, PySem.W.mg_of X G g8_, PySem.W.mg_of X G g9_, PySem.W.mg_of X G g10_, PySem.W.mg_of X G g11_, PySem.W.mg_of X G g12_, PySem.W.mg_of X G g13_, PySem.W.mg_of X G g14_, PySem.W.mg_of X G g15_, PySem.W.mg_of X G g16_, PySem.W.mg_of X G g17_, PySem.W.mg_of X G g18_, (PySem.W.mg_none_of X G z_ValueError), (PySem.W.mg_none_of X G z_isinstance), (PySem.W.mg_none_of X G z_len)⟩
  have HK : Hk l.prog K mg ⟨eM, e0, e1, e2, e3, e4, e5, e6, e7, e8, e9, e10, e11, e12, e13, e14, e15, e16, e17, e18⟩ := ⟨EG, ⟨_, _, F16, PySem.W.mg_of X G a16, b16⟩⟩
  have O0 := oex_mk lC0 rV0 sa0 ex0 t0_ kC0
  have T0 := ert_mk (P := l.prog) (mg := mg) (st := sBadSizeI) O0 se0 (PySem.W.mg_none_of X G z_super) top_ stn al0 vE0 lk0 cd0_ lc0 vs0 fl0 ce0 iI0 tI0
  have R0 : Er l.prog K mg "BadSize" ["size"] e0 := ⟨O0, PySem.W.mg_of X G g0_, _, _, iI0, tI0, .all fun us hl => match us, hl with | [_, _], _ => rfl, fun w base => ok_BadSizeI T0 no0_0⟩
  have Q0 : KitsG K ⟨eM, e0, e1, e2, e3, e4, e5, e6, e7, e8, e9, e10, e11, e12, e13, e14, e15, e16, e17, e18⟩ e0 := ⟨⟨xg0, xk0, ex0, xd0, xa0, ic, it, xm0⟩, kit_of se0 bM tM_ sM0, kitV_ty vE0, true, false, false, false, false, false, false, false, false, false, false, false, false, false, false, false, false, false, false, kit_of se0 b0_ t0_ s0_0, kit_of se0 b1_ t1_ s0_1, kit_of se0 b2_ t2_ s0_2, kit_of se0 b3_ t3_ s0_3, kit_of se0 b4_ t4_ s0_4, kit_of se0 b5_ t5_ s0_5, kit_of se0 b6_ t6_ s0_6, kit_of se0 b7_ t7_ s0_7, kit_of se0 b8_ t8_ s0_8, kit_of se0 b9_ t9_ s0_9, kit_of se0 b10_ t10_ s0_10, kit_of se0 b11_ t11_ s0_11, kit_of se0 b12_ t12_ s0_12, kit_of se0 b13_ t13_ s0_13, kit_of se0 b14_ t14_ s0_14, kit_of se0 b15_ t15_ s0_15, kit_of se0 b16_ t16_ s0_16, kit_of se0 b17_ t17_ s0_17, kit_of se0 b18_ t18_ s0_18, by decide⟩
  have V0 : ErX l.prog K mg ⟨eM, e0, e1, e2, e3, e4, e5, e6, e7, e8, e9, e10, e11, e12, e13, e14, e15, e16, e17, e18⟩ "BadSize" ["size"] e0 := ⟨R0, Q0, fun n hn => by
    rcases List.mem_cons.mp hn with e | hn
    · rw [e]; exact no0_0
    cases hn⟩
  have O2 := oex_mk lC2 rV2 sa2 ex2 t2_ kC2
  have T2 := ert_mk (P := l.prog) (mg := mg) (st := sUnknownWordI) O2 se2 (PySem.W.mg_none_of X G z_super) top_ stn al2 vE2 lk2 cd2_ lc2 vs2 fl2 ce2 iI2 tI2
  have R2 : Er l.prog K mg "UnknownWord" ["word"] e2 := ⟨O2, PySem.W.mg_of X G g2_, _, _, iI2, tI2, .all fun us hl => match us, hl with | [_, _], _ => rfl, fun w base => ok_UnknownWordI T2 no2_0⟩
  have Q2 : KitsG K ⟨eM, e0, e1, e2, e3, e4, e5, e6, e7, e8, e9, e10, e11, e12, e13, e14, e15, e16, e17, e18⟩ e2 := ⟨⟨xg2, xk2, ex2, xd2, xa2, ic, it, xm2⟩, kit_of se2 bM tM_ sM2, kitV_ty vE2, false, false, true, false, false, false, false, false, false, false, false, false, false, false, false, false, false, false, false, kit_of se2 b0_ t0_ s2_0, kit_of se2 b1_ t1_ s2_1, kit_of se2 b2_ t2_ s2_2, kit_of se2 b3_ t3_ s2_3, kit_of se2 b4_ t4_ s2_4, kit_of se2 b5_ t5_ s2_5, kit_of se2 b6_ t6_ s2_6, kit_of se2 b7_ t7_ s2_7, kit_of se2 b8_ t8_ s2_8, kit_of se2 b9_ t9_ s2_9, kit_of se2 b10_ t10_ s2_10, kit_of se2 b11_ t11_ s2_11, kit_of se2 b12_ t12_ s2_12, kit_of se2 b13_ t13_ s2_13, kit_of se2 b14_ t14_ s2_14, kit_of se2 b15_ t15_ s2_15, kit_of se2 b16_ t16_ s2_16, kit_of se2 b17_ t17_ s2_17, kit_of se2 b18_ t18_ s2_18, by decide⟩
  have V2 : ErX l.prog K mg ⟨eM, e0, e1, e2, e3, e4, e5, e6, e7, e8, e9, e10, e11, e12, e13, e14, e15, e16, e17, e18⟩ "UnknownWord" ["word"] e2 := ⟨R2, Q2, fun n hn => by
    rcases List.mem_cons.mp hn with e | hn
    · rw [e]; exact no2_0
    cases hn⟩
  have X0_0 := PySem.W.exm_ref ex0 xd0 t0_ s0_0
  have X2_0 := PySem.W.exm_ref ex0 xd0 t0_ s2_0
  have X2_2 := PySem.W.exm_ref ex2 xd2 t2_ s2_2
  have L : Lt K mg := ⟨B, ⟨_, _, F10, PySem.W.mg_of X G a10, b10⟩, ⟨_, _, F11, PySem.W.mg_of X G a11, b11⟩⟩
  have Gg : Gs K mg C := ⟨B, T, ⟨_, _, F1, PySem.W.mg_of X G a1, b1⟩, ⟨_, _, F2, PySem.W.mg_of X G a2, b2⟩, ⟨_, _, F3, PySem.W.mg_of X G a3, b3⟩, ⟨_, _, F4, PySem.W.mg_of X G a4, b4⟩, ⟨_, _, F5, PySem.W.mg_of X G a5, b5⟩, ⟨_, _, F6, PySem.W.mg_of X G a6, b6⟩⟩
  have V : Vt K mg C := ⟨Gg, I, ⟨_, _, F13, PySem.W.mg_of X G a13, b13⟩, ⟨_, _, F14, PySem.W.mg_of X G a14, b14⟩, ⟨_, _, F8, ⟨a8, i8, k8⟩, b8⟩⟩
  have M3 : Mk3 K mg C := ⟨(PySem.W.mg_none_of X G z_iter), ⟨_, _, F7, ⟨mk, a7, i7, kc⟩, b7⟩, ⟨_, _, F19, ⟨a19, i19⟩, b19⟩, ⟨_, _, F17, PySem.W.mg_of X G a17, b17⟩, ⟨_, _, F20, ⟨_, ⟨a20, ⟨_, r20⟩, n20⟩⟩, b20⟩, ⟨_, _, F21, ⟨_, ⟨a21, ⟨_, r21⟩, n21⟩⟩, b21⟩, ⟨_, _, F22, ⟨_, ⟨a22, ⟨_, r22⟩, n22⟩⟩, b22⟩, ⟨_, _, F23, ⟨_, ⟨a23, ⟨_, r23⟩⟩⟩, b23⟩⟩
  have A : Al l.prog K mg ⟨eM, e0, e1, e2, e3, e4, e5, e6, e7, e8, e9, e10, e11, e12, e13, e14, e15, e16, e17, e18⟩ C := ⟨L, Gg, V, M3, ⟨_, _, F9, PySem.W.mg_of X G a9, b9⟩, ⟨_, _, F12, PySem.W.mg_of X G a12, b12⟩, ⟨_, _, F24, PySem.W.mg_of X G a24, b24⟩, ⟨_, _, F25, PySem.W.mg_of X G a25, b25⟩, ⟨_, _, F26, PySem.W.mg_of X G a26, b26⟩, ⟨_, _, F18, PySem.W.mg_of X G a18, b18⟩, ⟨_, _, F27, PySem.W.mg_of X G a27, b27⟩, ⟨_, _, F28, PySem.W.mg_of X G a28, b28⟩, ⟨_, _, F15, PySem.W.mg_of X G a15, b15⟩, (PySem.W.mg_none_of X G z_sorted), HK, V0, V2, X0_0, X2_0, X2_2⟩
  exact ⟨PySem.W.fnOf "law" "law" (defArgs sLaw) (defBody sLaw) (defScope sLaw) .none kV29 dc29 pm29 an29 cd29 ct29, fun s v => .of_eq rfl, fun base _ _ =>
    ok_law F29 A⟩
def hdB0 (K : PySem.W.Frag) : Bool := He.eqO (PySem.W.nsIn K mainGlobals "Table") (some (some (.ref (He.ga K "Table")))) && (He.eqO (PySem.W.nsIn K mainGlobals "is_word") (some (some (.ref (He.ga K "is_word")))) && (PySem.W.keepIn K (.ref (He.ga K "is_word")) && (He.eqO (PySem.W.nsIn K mainGlobals "all_words") (some (some (.ref (He.ga K "all_words")))) && (PySem.W.keepIn K (.ref (He.ga K "all_words")) && (He.eqO (PySem.W.nsIn K mainGlobals "is_size") (some (some (.ref (He.ga K "is_size")))) && (PySem.W.keepIn K (.ref (He.ga K "is_size")) && (He.eqO (PySem.W.nsIn K mainGlobals "check_size") (some (some (.ref (He.ga K "check_size")))) && (PySem.W.keepIn K (.ref (He.ga K "check_size")) && (He.eqO (PySem.W.nsIn K mainGlobals "check_word") (some (some (.ref (He.ga K "check_word")))) && (PySem.W.keepIn K (.ref (He.ga K "check_word")) && (He.eqO (PySem.W.nsIn K mainGlobals "ascending") (some (some (.ref (He.ga K "ascending")))) && (PySem.W.keepIn K (.ref (He.ga K "ascending")) && (He.eqO (PySem.W.findIn K (.ref (He.ga K "Table")) "__init__") (some (some (.ref (He.ma K (He.ga K "Table") "__init__")))) && (PySem.W.isFn K (.ref (He.ma K (He.ga K "Table") "__init__")) && (PySem.W.keepIn K (.ref (He.ma K (He.ga K "Table") "__init__")) && (He.eqO (PySem.W.findIn K (.ref (He.ga K "Table")) "rows") (some (some (.ref (He.ma K (He.ga K "Table") "rows")))) && (PySem.W.isFn K (.ref (He.ma K (He.ga K "Table") "rows")) && (PySem.W.keepIn K (.ref (He.ma K (He.ga K "Table") "rows")) && (He.eqO (PySem.W.nsIn K mainGlobals "_law_box") (some (some (.ref (He.ga K "_law_box")))))))))))))))))))))))
theorem hdT0 {K : PySem.W.Frag} (h : hdB0 K = true) : (PySem.W.nsIn K mainGlobals "Table" = some (some (.ref (He.ga K "Table")))) ∧ (PySem.W.nsIn K mainGlobals "is_word" = some (some (.ref (He.ga K "is_word")))) ∧ (PySem.W.keepIn K (.ref (He.ga K "is_word")) = true) ∧ (PySem.W.nsIn K mainGlobals "all_words" = some (some (.ref (He.ga K "all_words")))) ∧ (PySem.W.keepIn K (.ref (He.ga K "all_words")) = true) ∧ (PySem.W.nsIn K mainGlobals "is_size" = some (some (.ref (He.ga K "is_size")))) ∧ (PySem.W.keepIn K (.ref (He.ga K "is_size")) = true) ∧ (PySem.W.nsIn K mainGlobals "check_size" = some (some (.ref (He.ga K "check_size")))) ∧ (PySem.W.keepIn K (.ref (He.ga K "check_size")) = true) ∧ (PySem.W.nsIn K mainGlobals "check_word" = some (some (.ref (He.ga K "check_word")))) ∧ (PySem.W.keepIn K (.ref (He.ga K "check_word")) = true) ∧ (PySem.W.nsIn K mainGlobals "ascending" = some (some (.ref (He.ga K "ascending")))) ∧ (PySem.W.keepIn K (.ref (He.ga K "ascending")) = true) ∧ (PySem.W.findIn K (.ref (He.ga K "Table")) "__init__" = some (some (.ref (He.ma K (He.ga K "Table") "__init__")))) ∧ (PySem.W.isFn K (.ref (He.ma K (He.ga K "Table") "__init__")) = true) ∧ (PySem.W.keepIn K (.ref (He.ma K (He.ga K "Table") "__init__")) = true) ∧ (PySem.W.findIn K (.ref (He.ga K "Table")) "rows" = some (some (.ref (He.ma K (He.ga K "Table") "rows")))) ∧ (PySem.W.isFn K (.ref (He.ma K (He.ga K "Table") "rows")) = true) ∧ (PySem.W.keepIn K (.ref (He.ma K (He.ga K "Table") "rows")) = true) ∧ (PySem.W.nsIn K mainGlobals "_law_box" = some (some (.ref (He.ga K "_law_box")))) := by
  unfold hdB0 at h
  obtain ⟨h0, h⟩ := He.ba h
  obtain ⟨h1, h⟩ := He.ba h
  obtain ⟨h2, h⟩ := He.ba h
  obtain ⟨h3, h⟩ := He.ba h
  obtain ⟨h4, h⟩ := He.ba h
  obtain ⟨h5, h⟩ := He.ba h
  obtain ⟨h6, h⟩ := He.ba h
  obtain ⟨h7, h⟩ := He.ba h
  obtain ⟨h8, h⟩ := He.ba h
  obtain ⟨h9, h⟩ := He.ba h
  obtain ⟨h10, h⟩ := He.ba h
  obtain ⟨h11, h⟩ := He.ba h
  obtain ⟨h12, h⟩ := He.ba h
  obtain ⟨h13, h⟩ := He.ba h
  obtain ⟨h14, h⟩ := He.ba h
  obtain ⟨h15, h⟩ := He.ba h
  obtain ⟨h16, h⟩ := He.ba h
  obtain ⟨h17, h⟩ := He.ba h
  obtain ⟨h18, h⟩ := He.ba h
  exact ⟨He.eqO_ok h0, He.eqO_ok h1, h2, He.eqO_ok h3, h4, He.eqO_ok h5, h6, He.eqO_ok h7, h8, He.eqO_ok h9, h10, He.eqO_ok h11, h12, He.eqO_ok h13, h14, h15, He.eqO_ok h16, h17, h18, He.eqO_ok h⟩
def hdB1 (K : PySem.W.Frag) : Bool := PySem.W.keepIn K (.ref (He.ga K "_law_box")) && (He.eqO (PySem.W.nsIn K mainGlobals "_law_take") (some (some (.ref (He.ga K "_law_take")))) && (PySem.W.keepIn K (.ref (He.ga K "_law_take")) && (He.eqO (PySem.W.nsIn K mainGlobals "_law_words") (some (some (.ref (He.ga K "_law_words")))) && (PySem.W.keepIn K (.ref (He.ga K "_law_words")) && (He.eqO (PySem.W.nsIn K mainGlobals "_law_rows") (some (some (.ref (He.ga K "_law_rows")))) && (PySem.W.keepIn K (.ref (He.ga K "_law_rows")) && (He.eqO (PySem.W.nsIn K mainGlobals "_law_is_int") (some (some (.ref (He.ga K "_law_is_int")))) && (PySem.W.keepIn K (.ref (He.ga K "_law_is_int")) && (He.eqO (PySem.W.nsIn K mainGlobals "_law_is_words") (some (some (.ref (He.ga K "_law_is_words")))) && (PySem.W.keepIn K (.ref (He.ga K "_law_is_words")) && (He.eqO (PySem.W.nsIn K mainGlobals "_law_same") (some (some (.ref (He.ga K "_law_same")))) && (PySem.W.keepIn K (.ref (He.ga K "_law_same")) && (He.eqO (PySem.W.nsIn K mainGlobals "_law_single") (some (some (.ref (He.ga K "_law_single")))) && (PySem.W.keepIn K (.ref (He.ga K "_law_single")) && (He.eqO (PySem.W.nsIn K mainGlobals "check_words") (some (some (.ref (He.ga K "check_words")))) && (PySem.W.keepIn K (.ref (He.ga K "check_words")) && (He.eqO (PySem.W.nsIn K mainGlobals "_law_far") (some (some (.ref (He.ga K "_law_far")))) && (PySem.W.keepIn K (.ref (He.ga K "_law_far")) && (He.eqO (PySem.W.findIn K (.ref (He.ga K "Table")) "__iter__") (some (some (.ref (He.ma K (He.ga K "Table") "__iter__")))))))))))))))))))))))
theorem hdT1 {K : PySem.W.Frag} (h : hdB1 K = true) : (PySem.W.keepIn K (.ref (He.ga K "_law_box")) = true) ∧ (PySem.W.nsIn K mainGlobals "_law_take" = some (some (.ref (He.ga K "_law_take")))) ∧ (PySem.W.keepIn K (.ref (He.ga K "_law_take")) = true) ∧ (PySem.W.nsIn K mainGlobals "_law_words" = some (some (.ref (He.ga K "_law_words")))) ∧ (PySem.W.keepIn K (.ref (He.ga K "_law_words")) = true) ∧ (PySem.W.nsIn K mainGlobals "_law_rows" = some (some (.ref (He.ga K "_law_rows")))) ∧ (PySem.W.keepIn K (.ref (He.ga K "_law_rows")) = true) ∧ (PySem.W.nsIn K mainGlobals "_law_is_int" = some (some (.ref (He.ga K "_law_is_int")))) ∧ (PySem.W.keepIn K (.ref (He.ga K "_law_is_int")) = true) ∧ (PySem.W.nsIn K mainGlobals "_law_is_words" = some (some (.ref (He.ga K "_law_is_words")))) ∧ (PySem.W.keepIn K (.ref (He.ga K "_law_is_words")) = true) ∧ (PySem.W.nsIn K mainGlobals "_law_same" = some (some (.ref (He.ga K "_law_same")))) ∧ (PySem.W.keepIn K (.ref (He.ga K "_law_same")) = true) ∧ (PySem.W.nsIn K mainGlobals "_law_single" = some (some (.ref (He.ga K "_law_single")))) ∧ (PySem.W.keepIn K (.ref (He.ga K "_law_single")) = true) ∧ (PySem.W.nsIn K mainGlobals "check_words" = some (some (.ref (He.ga K "check_words")))) ∧ (PySem.W.keepIn K (.ref (He.ga K "check_words")) = true) ∧ (PySem.W.nsIn K mainGlobals "_law_far" = some (some (.ref (He.ga K "_law_far")))) ∧ (PySem.W.keepIn K (.ref (He.ga K "_law_far")) = true) ∧ (PySem.W.findIn K (.ref (He.ga K "Table")) "__iter__" = some (some (.ref (He.ma K (He.ga K "Table") "__iter__")))) := by
  unfold hdB1 at h
  obtain ⟨h0, h⟩ := He.ba h
  obtain ⟨h1, h⟩ := He.ba h
  obtain ⟨h2, h⟩ := He.ba h
  obtain ⟨h3, h⟩ := He.ba h
  obtain ⟨h4, h⟩ := He.ba h
  obtain ⟨h5, h⟩ := He.ba h
  obtain ⟨h6, h⟩ := He.ba h
  obtain ⟨h7, h⟩ := He.ba h
  obtain ⟨h8, h⟩ := He.ba h
  obtain ⟨h9, h⟩ := He.ba h
  obtain ⟨h10, h⟩ := He.ba h
  obtain ⟨h11, h⟩ := He.ba h
  obtain ⟨h12, h⟩ := He.ba h
  obtain ⟨h13, h⟩ := He.ba h
  obtain ⟨h14, h⟩ := He.ba h
  obtain ⟨h15, h⟩ := He.ba h
  obtain ⟨h16, h⟩ := He.ba h
  obtain ⟨h17, h⟩ := He.ba h
  obtain ⟨h18, h⟩ := He.ba h
  exact ⟨h0, He.eqO_ok h1, h2, He.eqO_ok h3, h4, He.eqO_ok h5, h6, He.eqO_ok h7, h8, He.eqO_ok h9, h10, He.eqO_ok h11, h12, He.eqO_ok h13, h14, He.eqO_ok h15, h16, He.eqO_ok h17, h18, He.eqO_ok h⟩
def hdB2 (K : PySem.W.Frag) : Bool := PySem.W.isFn K (.ref (He.ma K (He.ga K "Table") "__iter__")) && (PySem.W.keepIn K (.ref (He.ma K (He.ga K "Table") "__iter__")) && (Hd.cmB K (He.ga K "Table") "identity" "classmethod.__get__" && (Hd.recB K (Hd.cmA K (He.ga K "Table") "identity") "classmethod" && (PySem.W.fnIn K (Hd.recA K (Hd.cmA K (He.ga K "Table") "identity") "classmethod") && (PySem.W.keepIn K (.ref (Hd.recA K (Hd.cmA K (He.ga K "Table") "identity") "classmethod")) && (Hd.cmB K (He.ga K "Table") "full" "classmethod.__get__" && (Hd.recB K (Hd.cmA K (He.ga K "Table") "full") "classmethod" && (PySem.W.fnIn K (Hd.recA K (Hd.cmA K (He.ga K "Table") "full") "classmethod") && (PySem.W.keepIn K (.ref (Hd.recA K (Hd.cmA K (He.ga K "Table") "full") "classmethod")) && (Hd.cmB K (He.ga K "Table") "empty" "classmethod.__get__" && (Hd.recB K (Hd.cmA K (He.ga K "Table") "empty") "classmethod" && (PySem.W.fnIn K (Hd.recA K (Hd.cmA K (He.ga K "Table") "empty") "classmethod") && (PySem.W.keepIn K (.ref (Hd.recA K (Hd.cmA K (He.ga K "Table") "empty") "classmethod")) && (Hd.cmB K (He.ga K "Table") "of" "staticmethod.__get__" && (Hd.recB K (Hd.cmA K (He.ga K "Table") "of") "staticmethod" && (PySem.W.keepIn K (.ref (Hd.recA K (Hd.cmA K (He.ga K "Table") "of") "staticmethod")) && (He.eqO (PySem.W.nsIn K mainGlobals "_law_same_rows") (some (some (.ref (He.ga K "_law_same_rows")))) && (PySem.W.keepIn K (.ref (He.ga K "_law_same_rows")) && (He.eqO (PySem.W.nsIn K mainGlobals "_law_pairs") (some (some (.ref (He.ga K "_law_pairs")))))))))))))))))))))))
theorem hdT2 {K : PySem.W.Frag} (h : hdB2 K = true) : (PySem.W.isFn K (.ref (He.ma K (He.ga K "Table") "__iter__")) = true) ∧ (PySem.W.keepIn K (.ref (He.ma K (He.ga K "Table") "__iter__")) = true) ∧ (PySem.W.findCls K (.ref (He.ga K "Table")) (.type "type") "identity" = some (.get (.builtin "classmethod.__get__") (.ref (Hd.cmA K (He.ga K "Table") "identity")) .none (.ref (He.ga K "Table")))) ∧ (∃ rs, PySem.W.recIn K (Hd.cmA K (He.ga K "Table") "identity") "classmethod" = some (.ref (Hd.recA K (Hd.cmA K (He.ga K "Table") "identity") "classmethod") :: rs)) ∧ (PySem.W.fnIn K (Hd.recA K (Hd.cmA K (He.ga K "Table") "identity") "classmethod") = true) ∧ (PySem.W.keepIn K (.ref (Hd.recA K (Hd.cmA K (He.ga K "Table") "identity") "classmethod")) = true) ∧ (PySem.W.findCls K (.ref (He.ga K "Table")) (.type "type") "full" = some (.get (.builtin "classmethod.__get__") (.ref (Hd.cmA K (He.ga K "Table") "full")) .none (.ref (He.ga K "Table")))) ∧ (∃ rs, PySem.W.recIn K (Hd.cmA K (He.ga K "Table") "full") "classmethod" = some (.ref (Hd.recA K (Hd.cmA K (He.ga K "Table") "full") "classmethod") :: rs)) ∧ (PySem.W.fnIn K (Hd.recA K (Hd.cmA K (He.ga K "Table") "full") "classmethod") = true) ∧ (PySem.W.keepIn K (.ref (Hd.recA K (Hd.cmA K (He.ga K "Table") "full") "classmethod")) = true) ∧ (PySem.W.findCls K (.ref (He.ga K "Table")) (.type "type") "empty" = some (.get (.builtin "classmethod.__get__") (.ref (Hd.cmA K (He.ga K "Table") "empty")) .none (.ref (He.ga K "Table")))) ∧ (∃ rs, PySem.W.recIn K (Hd.cmA K (He.ga K "Table") "empty") "classmethod" = some (.ref (Hd.recA K (Hd.cmA K (He.ga K "Table") "empty") "classmethod") :: rs)) ∧ (PySem.W.fnIn K (Hd.recA K (Hd.cmA K (He.ga K "Table") "empty") "classmethod") = true) ∧ (PySem.W.keepIn K (.ref (Hd.recA K (Hd.cmA K (He.ga K "Table") "empty") "classmethod")) = true) ∧ (PySem.W.findCls K (.ref (He.ga K "Table")) (.type "type") "of" = some (.get (.builtin "staticmethod.__get__") (.ref (Hd.cmA K (He.ga K "Table") "of")) .none (.ref (He.ga K "Table")))) ∧ (∃ rs, PySem.W.recIn K (Hd.cmA K (He.ga K "Table") "of") "staticmethod" = some (.ref (Hd.recA K (Hd.cmA K (He.ga K "Table") "of") "staticmethod") :: rs)) ∧ (PySem.W.keepIn K (.ref (Hd.recA K (Hd.cmA K (He.ga K "Table") "of") "staticmethod")) = true) ∧ (PySem.W.nsIn K mainGlobals "_law_same_rows" = some (some (.ref (He.ga K "_law_same_rows")))) ∧ (PySem.W.keepIn K (.ref (He.ga K "_law_same_rows")) = true) ∧ (PySem.W.nsIn K mainGlobals "_law_pairs" = some (some (.ref (He.ga K "_law_pairs")))) := by
  unfold hdB2 at h
  obtain ⟨h0, h⟩ := He.ba h
  obtain ⟨h1, h⟩ := He.ba h
  obtain ⟨h2, h⟩ := He.ba h
  obtain ⟨h3, h⟩ := He.ba h
  obtain ⟨h4, h⟩ := He.ba h
  obtain ⟨h5, h⟩ := He.ba h
  obtain ⟨h6, h⟩ := He.ba h
  obtain ⟨h7, h⟩ := He.ba h
  obtain ⟨h8, h⟩ := He.ba h
  obtain ⟨h9, h⟩ := He.ba h
  obtain ⟨h10, h⟩ := He.ba h
  obtain ⟨h11, h⟩ := He.ba h
  obtain ⟨h12, h⟩ := He.ba h
  obtain ⟨h13, h⟩ := He.ba h
  obtain ⟨h14, h⟩ := He.ba h
  obtain ⟨h15, h⟩ := He.ba h
  obtain ⟨h16, h⟩ := He.ba h
  obtain ⟨h17, h⟩ := He.ba h
  obtain ⟨h18, h⟩ := He.ba h
  exact ⟨h0, h1, Hd.cm_ok h2, Hd.rec_ok h3, h4, h5, Hd.cm_ok h6, Hd.rec_ok h7, h8, h9, Hd.cm_ok h10, Hd.rec_ok h11, h12, h13, Hd.cm_ok h14, Hd.rec_ok h15, h16, He.eqO_ok h17, h18, He.eqO_ok h⟩
def hdB3 (K : PySem.W.Frag) : Bool := PySem.W.keepIn K (.ref (He.ga K "_law_pairs")) && (He.eqO (PySem.W.nsIn K mainGlobals "_law_mixed") (some (some (.ref (He.ga K "_law_mixed")))) && (PySem.W.keepIn K (.ref (He.ga K "_law_mixed")) && (He.eqO (PySem.W.nsIn K mainGlobals "_law_smaller") (some (some (.ref (He.ga K "_law_smaller")))) && (PySem.W.keepIn K (.ref (He.ga K "_law_smaller")) && (He.eqO (PySem.W.nsIn K mainGlobals "_law_made_error") (some (some (.ref (He.ga K "_law_made_error")))) && (PySem.W.keepIn K (.ref (He.ga K "_law_made_error")) && (He.eqO (PySem.W.nsIn K mainGlobals "law") (some (some (.ref (He.ga K "law")))) && (PySem.W.keepIn K (.ref (He.ga K "law")) && (PySem.W.plainGet K (He.ga K "Table") Str.empty && (PySem.W.hasDictIn K (He.ga K "Table") && (PySem.W.plainOver K (He.ga K "Table") && (He.eqO (PySem.W.findIn K (.ref (He.ga K "Table")) "__setattr__") (some (some (.builtin "object.__setattr__"))) && (PySem.W.makesIn K (He.ga K "Table") && (PySem.W.keepIn K (.ref (He.ga K "Table")) && (He.eqO (PySem.W.findIn K (.ref (He.ga K "Table")) "size") (some none) && (He.eqO (PySem.W.findIn K (.ref (He.ga K "Table")) "_rows") (some none) && (He.eqO (PySem.W.findIn K (.ref (He.ga K "Table")) "_pairs") (some none) && (PySem.W.readsIn K (He.ga K "Table") (.type "type") && (He.eqO (PySem.W.specialIn K (.ref (He.ga K "Table")) "__getattribute__") (some (some (.builtin "type.__getattribute__"))))))))))))))))))))))
theorem hdT3 {K : PySem.W.Frag} (h : hdB3 K = true) : (PySem.W.keepIn K (.ref (He.ga K "_law_pairs")) = true) ∧ (PySem.W.nsIn K mainGlobals "_law_mixed" = some (some (.ref (He.ga K "_law_mixed")))) ∧ (PySem.W.keepIn K (.ref (He.ga K "_law_mixed")) = true) ∧ (PySem.W.nsIn K mainGlobals "_law_smaller" = some (some (.ref (He.ga K "_law_smaller")))) ∧ (PySem.W.keepIn K (.ref (He.ga K "_law_smaller")) = true) ∧ (PySem.W.nsIn K mainGlobals "_law_made_error" = some (some (.ref (He.ga K "_law_made_error")))) ∧ (PySem.W.keepIn K (.ref (He.ga K "_law_made_error")) = true) ∧ (PySem.W.nsIn K mainGlobals "law" = some (some (.ref (He.ga K "law")))) ∧ (PySem.W.keepIn K (.ref (He.ga K "law")) = true) ∧ (PySem.W.plainGet K (He.ga K "Table") Str.empty = true) ∧ (PySem.W.hasDictIn K (He.ga K "Table") = true) ∧ (PySem.W.plainOver K (He.ga K "Table") = true) ∧ (PySem.W.findIn K (.ref (He.ga K "Table")) "__setattr__" = some (some (.builtin "object.__setattr__"))) ∧ (PySem.W.makesIn K (He.ga K "Table") = true) ∧ (PySem.W.keepIn K (.ref (He.ga K "Table")) = true) ∧ (PySem.W.findIn K (.ref (He.ga K "Table")) "size" = some none) ∧ (PySem.W.findIn K (.ref (He.ga K "Table")) "_rows" = some none) ∧ (PySem.W.findIn K (.ref (He.ga K "Table")) "_pairs" = some none) ∧ (PySem.W.readsIn K (He.ga K "Table") (.type "type") = true) ∧ (PySem.W.specialIn K (.ref (He.ga K "Table")) "__getattribute__" = some (some (.builtin "type.__getattribute__"))) := by
  unfold hdB3 at h
  obtain ⟨h0, h⟩ := He.ba h
  obtain ⟨h1, h⟩ := He.ba h
  obtain ⟨h2, h⟩ := He.ba h
  obtain ⟨h3, h⟩ := He.ba h
  obtain ⟨h4, h⟩ := He.ba h
  obtain ⟨h5, h⟩ := He.ba h
  obtain ⟨h6, h⟩ := He.ba h
  obtain ⟨h7, h⟩ := He.ba h
  obtain ⟨h8, h⟩ := He.ba h
  obtain ⟨h9, h⟩ := He.ba h
  obtain ⟨h10, h⟩ := He.ba h
  obtain ⟨h11, h⟩ := He.ba h
  obtain ⟨h12, h⟩ := He.ba h
  obtain ⟨h13, h⟩ := He.ba h
  obtain ⟨h14, h⟩ := He.ba h
  obtain ⟨h15, h⟩ := He.ba h
  obtain ⟨h16, h⟩ := He.ba h
  obtain ⟨h17, h⟩ := He.ba h
  obtain ⟨h18, h⟩ := He.ba h
  exact ⟨h0, He.eqO_ok h1, h2, He.eqO_ok h3, h4, He.eqO_ok h5, h6, He.eqO_ok h7, h8, h9, h10, h11, He.eqO_ok h12, h13, h14, He.eqO_ok h15, He.eqO_ok h16, He.eqO_ok h17, h18, He.eqO_ok h⟩
def hdB4 (K : PySem.W.Frag) : Bool := Hd.cvalB K (He.ga K "Table") "MOST" 6 && (He.eqO (PySem.W.findIn K (.ref (He.ga K "Table")) "__class__") (some (some (.builtin "object.__class__"))) && (He.eqO (PySem.W.specialIn K (.builtin "object.__class__") "__get__") (some (some (.builtin "getset_descriptor.__get__"))) && (decide (PySem.W.takesIn K (.builtin "object.__class__") = some true) && (decide (PySem.W.mroIn K (He.ga K "Table") (.type "object") = some true) && (PySem.W.selfFirst K (He.ga K "Table") && (PySem.W.notFirst K (He.ga K "Table") (.ref (He.ga K "Table")) && (He.eqO (PySem.W.nsIn K mainGlobals "len") (some none) && (He.eqO (PySem.W.nsIn K mainGlobals "range") (some none) && (He.eqO (PySem.W.nsIn K mainGlobals "all") (some none) && (He.eqO (PySem.W.nsIn K mainGlobals "list") (some none) && (He.eqO (PySem.W.nsIn K mainGlobals "tuple") (some none) && (He.eqO (PySem.W.nsIn K mainGlobals "enumerate") (some none) && (He.eqO (PySem.W.nsIn K mainGlobals "isinstance") (some none) && (He.eqO (PySem.W.nsIn K mainGlobals "int") (some none) && (He.eqO (PySem.W.nsIn K mainGlobals "bool") (some none) && (He.eqO (PySem.W.nsIn K mainGlobals "str") (some none) && (He.eqO (PySem.W.nsIn K mainGlobals "abs") (some none) && (He.eqO (PySem.W.nsIn K mainGlobals "iter") (some none) && (He.eqO (PySem.W.nsIn K mainGlobals "sorted") (some none))))))))))))))))))))
theorem hdT4 {K : PySem.W.Frag} (h : hdB4 K = true) : (∃ t, PySem.W.findCls K (.ref (He.ga K "Table")) (.type "type") "MOST" = some (.val (.int 6 t))) ∧ (PySem.W.findIn K (.ref (He.ga K "Table")) "__class__" = some (some (.builtin "object.__class__"))) ∧ (PySem.W.specialIn K (.builtin "object.__class__") "__get__" = some (some (.builtin "getset_descriptor.__get__"))) ∧ (PySem.W.takesIn K (.builtin "object.__class__") = some true) ∧ (PySem.W.mroIn K (He.ga K "Table") (.type "object") = some true) ∧ (PySem.W.selfFirst K (He.ga K "Table") = true) ∧ (PySem.W.notFirst K (He.ga K "Table") (.ref (He.ga K "Table")) = true) ∧ (PySem.W.nsIn K mainGlobals "len" = some none) ∧ (PySem.W.nsIn K mainGlobals "range" = some none) ∧ (PySem.W.nsIn K mainGlobals "all" = some none) ∧ (PySem.W.nsIn K mainGlobals "list" = some none) ∧ (PySem.W.nsIn K mainGlobals "tuple" = some none) ∧ (PySem.W.nsIn K mainGlobals "enumerate" = some none) ∧ (PySem.W.nsIn K mainGlobals "isinstance" = some none) ∧ (PySem.W.nsIn K mainGlobals "int" = some none) ∧ (PySem.W.nsIn K mainGlobals "bool" = some none) ∧ (PySem.W.nsIn K mainGlobals "str" = some none) ∧ (PySem.W.nsIn K mainGlobals "abs" = some none) ∧ (PySem.W.nsIn K mainGlobals "iter" = some none) ∧ (PySem.W.nsIn K mainGlobals "sorted" = some none) := by
  unfold hdB4 at h
  obtain ⟨h0, h⟩ := He.ba h
  obtain ⟨h1, h⟩ := He.ba h
  obtain ⟨h2, h⟩ := He.ba h
  obtain ⟨h3, h⟩ := He.ba h
  obtain ⟨h4, h⟩ := He.ba h
  obtain ⟨h5, h⟩ := He.ba h
  obtain ⟨h6, h⟩ := He.ba h
  obtain ⟨h7, h⟩ := He.ba h
  obtain ⟨h8, h⟩ := He.ba h
  obtain ⟨h9, h⟩ := He.ba h
  obtain ⟨h10, h⟩ := He.ba h
  obtain ⟨h11, h⟩ := He.ba h
  obtain ⟨h12, h⟩ := He.ba h
  obtain ⟨h13, h⟩ := He.ba h
  obtain ⟨h14, h⟩ := He.ba h
  obtain ⟨h15, h⟩ := He.ba h
  obtain ⟨h16, h⟩ := He.ba h
  obtain ⟨h17, h⟩ := He.ba h
  obtain ⟨h18, h⟩ := He.ba h
  exact ⟨Hd.cval_ok h0, He.eqO_ok h1, He.eqO_ok h2, of_decide_eq_true h3, of_decide_eq_true h4, h5, h6, He.eqO_ok h7, He.eqO_ok h8, He.eqO_ok h9, He.eqO_ok h10, He.eqO_ok h11, He.eqO_ok h12, He.eqO_ok h13, He.eqO_ok h14, He.eqO_ok h15, He.eqO_ok h16, He.eqO_ok h17, He.eqO_ok h18, He.eqO_ok h⟩
def hdB5 (K : PySem.W.Frag) : Bool := He.eqO (PySem.W.nsIn K mainGlobals "ValueError") (some none) && (He.eqO (PySem.W.nsIn K mainGlobals "super") (some none) && (He.eqO (PySem.W.nsIn K mainGlobals "MurmurError") (some (some (.ref (He.ga K "MurmurError")))) && (PySem.W.isClsIn K (He.ga K "MurmurError") && (decide (PySem.W.typeIn K (.ref (He.ga K "MurmurError")) = some (.type "type")) && (He.eqO (PySem.W.nsIn K mainGlobals "BadSize") (some (some (.ref (He.ga K "BadSize")))) && (PySem.W.isClsIn K (He.ga K "BadSize") && (decide (PySem.W.typeIn K (.ref (He.ga K "BadSize")) = some (.type "type")) && (He.eqO (PySem.W.nsIn K mainGlobals "BadTable") (some (some (.ref (He.ga K "BadTable")))) && (PySem.W.isClsIn K (He.ga K "BadTable") && (decide (PySem.W.typeIn K (.ref (He.ga K "BadTable")) = some (.type "type")) && (He.eqO (PySem.W.nsIn K mainGlobals "UnknownWord") (some (some (.ref (He.ga K "UnknownWord")))) && (PySem.W.isClsIn K (He.ga K "UnknownWord") && (decide (PySem.W.typeIn K (.ref (He.ga K "UnknownWord")) = some (.type "type")) && (He.eqO (PySem.W.nsIn K mainGlobals "SizeMismatch") (some (some (.ref (He.ga K "SizeMismatch")))) && (PySem.W.isClsIn K (He.ga K "SizeMismatch") && (decide (PySem.W.typeIn K (.ref (He.ga K "SizeMismatch")) = some (.type "type")) && (He.eqO (PySem.W.nsIn K mainGlobals "BadCount") (some (some (.ref (He.ga K "BadCount")))) && (PySem.W.isClsIn K (He.ga K "BadCount") && (decide (PySem.W.typeIn K (.ref (He.ga K "BadCount")) = some (.type "type")))))))))))))))))))))
theorem hdT5 {K : PySem.W.Frag} (h : hdB5 K = true) : (PySem.W.nsIn K mainGlobals "ValueError" = some none) ∧ (PySem.W.nsIn K mainGlobals "super" = some none) ∧ (PySem.W.nsIn K mainGlobals "MurmurError" = some (some (.ref (He.ga K "MurmurError")))) ∧ (PySem.W.isClsIn K (He.ga K "MurmurError") = true) ∧ (PySem.W.typeIn K (.ref (He.ga K "MurmurError")) = some (.type "type")) ∧ (PySem.W.nsIn K mainGlobals "BadSize" = some (some (.ref (He.ga K "BadSize")))) ∧ (PySem.W.isClsIn K (He.ga K "BadSize") = true) ∧ (PySem.W.typeIn K (.ref (He.ga K "BadSize")) = some (.type "type")) ∧ (PySem.W.nsIn K mainGlobals "BadTable" = some (some (.ref (He.ga K "BadTable")))) ∧ (PySem.W.isClsIn K (He.ga K "BadTable") = true) ∧ (PySem.W.typeIn K (.ref (He.ga K "BadTable")) = some (.type "type")) ∧ (PySem.W.nsIn K mainGlobals "UnknownWord" = some (some (.ref (He.ga K "UnknownWord")))) ∧ (PySem.W.isClsIn K (He.ga K "UnknownWord") = true) ∧ (PySem.W.typeIn K (.ref (He.ga K "UnknownWord")) = some (.type "type")) ∧ (PySem.W.nsIn K mainGlobals "SizeMismatch" = some (some (.ref (He.ga K "SizeMismatch")))) ∧ (PySem.W.isClsIn K (He.ga K "SizeMismatch") = true) ∧ (PySem.W.typeIn K (.ref (He.ga K "SizeMismatch")) = some (.type "type")) ∧ (PySem.W.nsIn K mainGlobals "BadCount" = some (some (.ref (He.ga K "BadCount")))) ∧ (PySem.W.isClsIn K (He.ga K "BadCount") = true) ∧ (PySem.W.typeIn K (.ref (He.ga K "BadCount")) = some (.type "type")) := by
  unfold hdB5 at h
  obtain ⟨h0, h⟩ := He.ba h
  obtain ⟨h1, h⟩ := He.ba h
  obtain ⟨h2, h⟩ := He.ba h
  obtain ⟨h3, h⟩ := He.ba h
  obtain ⟨h4, h⟩ := He.ba h
  obtain ⟨h5, h⟩ := He.ba h
  obtain ⟨h6, h⟩ := He.ba h
  obtain ⟨h7, h⟩ := He.ba h
  obtain ⟨h8, h⟩ := He.ba h
  obtain ⟨h9, h⟩ := He.ba h
  obtain ⟨h10, h⟩ := He.ba h
  obtain ⟨h11, h⟩ := He.ba h
  obtain ⟨h12, h⟩ := He.ba h
  obtain ⟨h13, h⟩ := He.ba h
  obtain ⟨h14, h⟩ := He.ba h
  obtain ⟨h15, h⟩ := He.ba h
  obtain ⟨h16, h⟩ := He.ba h
  obtain ⟨h17, h⟩ := He.ba h
  obtain ⟨h18, h⟩ := He.ba h
  exact ⟨He.eqO_ok h0, He.eqO_ok h1, He.eqO_ok h2, h3, of_decide_eq_true h4, He.eqO_ok h5, h6, of_decide_eq_true h7, He.eqO_ok h8, h9, of_decide_eq_true h10, He.eqO_ok h11, h12, of_decide_eq_true h13, He.eqO_ok h14, h15, of_decide_eq_true h16, He.eqO_ok h17, h18, of_decide_eq_true h⟩
def hdB6 (K : PySem.W.Frag) : Bool := He.eqO (PySem.W.nsIn K mainGlobals "BadPerson") (some (some (.ref (He.ga K "BadPerson")))) && (PySem.W.isClsIn K (He.ga K "BadPerson") && (decide (PySem.W.typeIn K (.ref (He.ga K "BadPerson")) = some (.type "type")) && (He.eqO (PySem.W.nsIn K mainGlobals "BadLetter") (some (some (.ref (He.ga K "BadLetter")))) && (PySem.W.isClsIn K (He.ga K "BadLetter") && (decide (PySem.W.typeIn K (.ref (He.ga K "BadLetter")) = some (.type "type")) && (He.eqO (PySem.W.nsIn K mainGlobals "UnknownPerson") (some (some (.ref (He.ga K "UnknownPerson")))) && (PySem.W.isClsIn K (He.ga K "UnknownPerson") && (decide (PySem.W.typeIn K (.ref (He.ga K "UnknownPerson")) = some (.type "type")) && (He.eqO (PySem.W.nsIn K mainGlobals "TooMany") (some (some (.ref (He.ga K "TooMany")))) && (PySem.W.isClsIn K (He.ga K "TooMany") && (decide (PySem.W.typeIn K (.ref (He.ga K "TooMany")) = some (.type "type")) && (He.eqO (PySem.W.nsIn K mainGlobals "BadPattern") (some (some (.ref (He.ga K "BadPattern")))) && (PySem.W.isClsIn K (He.ga K "BadPattern") && (decide (PySem.W.typeIn K (.ref (He.ga K "BadPattern")) = some (.type "type")) && (He.eqO (PySem.W.nsIn K mainGlobals "SameWord") (some (some (.ref (He.ga K "SameWord")))) && (PySem.W.isClsIn K (He.ga K "SameWord") && (decide (PySem.W.typeIn K (.ref (He.ga K "SameWord")) = some (.type "type")) && (He.eqO (PySem.W.nsIn K mainGlobals "UnknownClue") (some (some (.ref (He.ga K "UnknownClue")))) && (PySem.W.isClsIn K (He.ga K "UnknownClue"))))))))))))))))))))
theorem hdT6 {K : PySem.W.Frag} (h : hdB6 K = true) : (PySem.W.nsIn K mainGlobals "BadPerson" = some (some (.ref (He.ga K "BadPerson")))) ∧ (PySem.W.isClsIn K (He.ga K "BadPerson") = true) ∧ (PySem.W.typeIn K (.ref (He.ga K "BadPerson")) = some (.type "type")) ∧ (PySem.W.nsIn K mainGlobals "BadLetter" = some (some (.ref (He.ga K "BadLetter")))) ∧ (PySem.W.isClsIn K (He.ga K "BadLetter") = true) ∧ (PySem.W.typeIn K (.ref (He.ga K "BadLetter")) = some (.type "type")) ∧ (PySem.W.nsIn K mainGlobals "UnknownPerson" = some (some (.ref (He.ga K "UnknownPerson")))) ∧ (PySem.W.isClsIn K (He.ga K "UnknownPerson") = true) ∧ (PySem.W.typeIn K (.ref (He.ga K "UnknownPerson")) = some (.type "type")) ∧ (PySem.W.nsIn K mainGlobals "TooMany" = some (some (.ref (He.ga K "TooMany")))) ∧ (PySem.W.isClsIn K (He.ga K "TooMany") = true) ∧ (PySem.W.typeIn K (.ref (He.ga K "TooMany")) = some (.type "type")) ∧ (PySem.W.nsIn K mainGlobals "BadPattern" = some (some (.ref (He.ga K "BadPattern")))) ∧ (PySem.W.isClsIn K (He.ga K "BadPattern") = true) ∧ (PySem.W.typeIn K (.ref (He.ga K "BadPattern")) = some (.type "type")) ∧ (PySem.W.nsIn K mainGlobals "SameWord" = some (some (.ref (He.ga K "SameWord")))) ∧ (PySem.W.isClsIn K (He.ga K "SameWord") = true) ∧ (PySem.W.typeIn K (.ref (He.ga K "SameWord")) = some (.type "type")) ∧ (PySem.W.nsIn K mainGlobals "UnknownClue" = some (some (.ref (He.ga K "UnknownClue")))) ∧ (PySem.W.isClsIn K (He.ga K "UnknownClue") = true) := by
  unfold hdB6 at h
  obtain ⟨h0, h⟩ := He.ba h
  obtain ⟨h1, h⟩ := He.ba h
  obtain ⟨h2, h⟩ := He.ba h
  obtain ⟨h3, h⟩ := He.ba h
  obtain ⟨h4, h⟩ := He.ba h
  obtain ⟨h5, h⟩ := He.ba h
  obtain ⟨h6, h⟩ := He.ba h
  obtain ⟨h7, h⟩ := He.ba h
  obtain ⟨h8, h⟩ := He.ba h
  obtain ⟨h9, h⟩ := He.ba h
  obtain ⟨h10, h⟩ := He.ba h
  obtain ⟨h11, h⟩ := He.ba h
  obtain ⟨h12, h⟩ := He.ba h
  obtain ⟨h13, h⟩ := He.ba h
  obtain ⟨h14, h⟩ := He.ba h
  obtain ⟨h15, h⟩ := He.ba h
  obtain ⟨h16, h⟩ := He.ba h
  obtain ⟨h17, h⟩ := He.ba h
  obtain ⟨h18, h⟩ := He.ba h
  exact ⟨He.eqO_ok h0, h1, of_decide_eq_true h2, He.eqO_ok h3, h4, of_decide_eq_true h5, He.eqO_ok h6, h7, of_decide_eq_true h8, He.eqO_ok h9, h10, of_decide_eq_true h11, He.eqO_ok h12, h13, of_decide_eq_true h14, He.eqO_ok h15, h16, of_decide_eq_true h17, He.eqO_ok h18, h⟩
def hdB7 (K : PySem.W.Frag) : Bool := decide (PySem.W.typeIn K (.ref (He.ga K "UnknownClue")) = some (.type "type")) && (He.eqO (PySem.W.nsIn K mainGlobals "BadPlace") (some (some (.ref (He.ga K "BadPlace")))) && (PySem.W.isClsIn K (He.ga K "BadPlace") && (decide (PySem.W.typeIn K (.ref (He.ga K "BadPlace")) = some (.type "type")) && (He.eqO (PySem.W.nsIn K mainGlobals "TooLong") (some (some (.ref (He.ga K "TooLong")))) && (PySem.W.isClsIn K (He.ga K "TooLong") && (decide (PySem.W.typeIn K (.ref (He.ga K "TooLong")) = some (.type "type")) && (He.eqO (PySem.W.nsIn K mainGlobals "Melted") (some (some (.ref (He.ga K "Melted")))) && (PySem.W.isClsIn K (He.ga K "Melted") && (decide (PySem.W.typeIn K (.ref (He.ga K "Melted")) = some (.type "type")) && (He.eqO (PySem.W.nsIn K mainGlobals "NothingToUndo") (some (some (.ref (He.ga K "NothingToUndo")))) && (PySem.W.isClsIn K (He.ga K "NothingToUndo") && (decide (PySem.W.typeIn K (.ref (He.ga K "NothingToUndo")) = some (.type "type")) && (He.eqO (PySem.W.nsIn K mainGlobals "NothingToRedo") (some (some (.ref (He.ga K "NothingToRedo")))) && (PySem.W.isClsIn K (He.ga K "NothingToRedo") && (decide (PySem.W.typeIn K (.ref (He.ga K "NothingToRedo")) = some (.type "type")) && (He.eqO (PySem.W.nsIn K mainGlobals "Refused") (some (some (.ref (He.ga K "Refused")))) && (PySem.W.isClsIn K (He.ga K "Refused") && (decide (PySem.W.typeIn K (.ref (He.ga K "Refused")) = some (.type "type")) && (He.eqO (PySem.W.nsIn K mainGlobals "BadLine") (some (some (.ref (He.ga K "BadLine")))))))))))))))))))))))
theorem hdT7 {K : PySem.W.Frag} (h : hdB7 K = true) : (PySem.W.typeIn K (.ref (He.ga K "UnknownClue")) = some (.type "type")) ∧ (PySem.W.nsIn K mainGlobals "BadPlace" = some (some (.ref (He.ga K "BadPlace")))) ∧ (PySem.W.isClsIn K (He.ga K "BadPlace") = true) ∧ (PySem.W.typeIn K (.ref (He.ga K "BadPlace")) = some (.type "type")) ∧ (PySem.W.nsIn K mainGlobals "TooLong" = some (some (.ref (He.ga K "TooLong")))) ∧ (PySem.W.isClsIn K (He.ga K "TooLong") = true) ∧ (PySem.W.typeIn K (.ref (He.ga K "TooLong")) = some (.type "type")) ∧ (PySem.W.nsIn K mainGlobals "Melted" = some (some (.ref (He.ga K "Melted")))) ∧ (PySem.W.isClsIn K (He.ga K "Melted") = true) ∧ (PySem.W.typeIn K (.ref (He.ga K "Melted")) = some (.type "type")) ∧ (PySem.W.nsIn K mainGlobals "NothingToUndo" = some (some (.ref (He.ga K "NothingToUndo")))) ∧ (PySem.W.isClsIn K (He.ga K "NothingToUndo") = true) ∧ (PySem.W.typeIn K (.ref (He.ga K "NothingToUndo")) = some (.type "type")) ∧ (PySem.W.nsIn K mainGlobals "NothingToRedo" = some (some (.ref (He.ga K "NothingToRedo")))) ∧ (PySem.W.isClsIn K (He.ga K "NothingToRedo") = true) ∧ (PySem.W.typeIn K (.ref (He.ga K "NothingToRedo")) = some (.type "type")) ∧ (PySem.W.nsIn K mainGlobals "Refused" = some (some (.ref (He.ga K "Refused")))) ∧ (PySem.W.isClsIn K (He.ga K "Refused") = true) ∧ (PySem.W.typeIn K (.ref (He.ga K "Refused")) = some (.type "type")) ∧ (PySem.W.nsIn K mainGlobals "BadLine" = some (some (.ref (He.ga K "BadLine")))) := by
  unfold hdB7 at h
  obtain ⟨h0, h⟩ := He.ba h
  obtain ⟨h1, h⟩ := He.ba h
  obtain ⟨h2, h⟩ := He.ba h
  obtain ⟨h3, h⟩ := He.ba h
  obtain ⟨h4, h⟩ := He.ba h
  obtain ⟨h5, h⟩ := He.ba h
  obtain ⟨h6, h⟩ := He.ba h
  obtain ⟨h7, h⟩ := He.ba h
  obtain ⟨h8, h⟩ := He.ba h
  obtain ⟨h9, h⟩ := He.ba h
  obtain ⟨h10, h⟩ := He.ba h
  obtain ⟨h11, h⟩ := He.ba h
  obtain ⟨h12, h⟩ := He.ba h
  obtain ⟨h13, h⟩ := He.ba h
  obtain ⟨h14, h⟩ := He.ba h
  obtain ⟨h15, h⟩ := He.ba h
  obtain ⟨h16, h⟩ := He.ba h
  obtain ⟨h17, h⟩ := He.ba h
  obtain ⟨h18, h⟩ := He.ba h
  exact ⟨of_decide_eq_true h0, He.eqO_ok h1, h2, of_decide_eq_true h3, He.eqO_ok h4, h5, of_decide_eq_true h6, He.eqO_ok h7, h8, of_decide_eq_true h9, He.eqO_ok h10, h11, of_decide_eq_true h12, He.eqO_ok h13, h14, of_decide_eq_true h15, He.eqO_ok h16, h17, of_decide_eq_true h18, He.eqO_ok h⟩
def hdB8 (K : PySem.W.Frag) : Bool := PySem.W.isClsIn K (He.ga K "BadLine") && (decide (PySem.W.typeIn K (.ref (He.ga K "BadLine")) = some (.type "type")) && (He.eqO (PySem.W.nsIn K cStatics "thirdparty.any") (some none) && (Hd.ecB K (He.ga K "BadSize") && (He.eqO (PySem.W.findIn K (.ref (He.ga K "BadSize")) "__setattr__") (some (some (.builtin "object.__setattr__"))) && (decide (PySem.W.subIn K (.ref (He.ga K "BadSize")) (.type "BaseException") = some true) && (PySem.W.keepIn K (.ref (He.ga K "BadSize")) && (decide (PySem.W.mroIn K (He.ga K "BadSize") (.ref (He.ga K "BadSize")) = some true) && (decide (PySem.W.subIn K (.ref (He.ga K "BadSize")) (.type "ValueError") = some true) && (He.eqO (PySem.W.ks_superIn K (He.ga K "BadSize") (He.ga K "BadSize") "__init__") (some (some (.builtin "ValueError.__init__"))) && (He.eqO (PySem.W.findIn K (.ref (He.ga K "BadSize")) "__init__") (some (some (.ref (He.ma K (He.ga K "BadSize") "__init__")))) && (decide (PySem.W.typeIn K (.ref (He.ma K (He.ga K "BadSize") "__init__")) = some (.type "function")) && (Hd.fileB K (Hd.codeOf K (He.ma K (He.ga K "BadSize") "__init__")) (PySem.Challenge.rw_murmurline_k03_table_made).prog.main.file && (Hd.cellB K (Hd.cellOf K (He.ma K (He.ga K "BadSize") "__init__")) (He.ga K "BadSize") && (He.eqO (PySem.W.findIn K (.ref (He.ga K "BadSize")) "size") (some none) && (He.eqO (PySem.W.findIn K (.ref (He.ga K "BadSize")) "__getattribute__") (some (some (.builtin "BaseException.__getattribute__"))) && (He.eqO (PySem.W.findIn K (.ref (He.ga K "BadSize")) "__getattr__") (some none) && (PySem.W.hasDictIn K (He.ga K "BadSize") && (He.eqO (PySem.W.findIn K (.ref (He.ga K "BadSize")) "__class__") (some (some (.builtin "object.__class__"))) && (decide (PySem.W.mroIn K (He.ga K "BadSize") (.type "object") = some true))))))))))))))))))))
theorem hdT8 {K : PySem.W.Frag} (h : hdB8 K = true) : (PySem.W.isClsIn K (He.ga K "BadLine") = true) ∧ (PySem.W.typeIn K (.ref (He.ga K "BadLine")) = some (.type "type")) ∧ (PySem.W.nsIn K cStatics "thirdparty.any" = some none) ∧ (∃ nm q N bs bm sn sub ab col dd k0 k1 k2 k3 k5, K.lookup (He.ga K "BadSize") = some (excClassObj nm q (He.ga K "BadSize") N bs bm true sn sub ab col dd k0 k1 k2 k3 k5 "ValueError.__new__") ∧ PySem.HandSPX.refsVE bm = true) ∧ (PySem.W.findIn K (.ref (He.ga K "BadSize")) "__setattr__" = some (some (.builtin "object.__setattr__"))) ∧ (PySem.W.subIn K (.ref (He.ga K "BadSize")) (.type "BaseException") = some true) ∧ (PySem.W.keepIn K (.ref (He.ga K "BadSize")) = true) ∧ (PySem.W.mroIn K (He.ga K "BadSize") (.ref (He.ga K "BadSize")) = some true) ∧ (PySem.W.subIn K (.ref (He.ga K "BadSize")) (.type "ValueError") = some true) ∧ (PySem.W.ks_superIn K (He.ga K "BadSize") (He.ga K "BadSize") "__init__" = some (some (.builtin "ValueError.__init__"))) ∧ (PySem.W.findIn K (.ref (He.ga K "BadSize")) "__init__" = some (some (.ref (He.ma K (He.ga K "BadSize") "__init__")))) ∧ (PySem.W.typeIn K (.ref (He.ma K (He.ga K "BadSize") "__init__")) = some (.type "function")) ∧ (∃ ek ew ev er ef eg, K.lookup (Hd.codeOf K (He.ma K (He.ga K "BadSize") "__init__")) = some ⟨ek, ew, .fields ev, er⟩ ∧ ev[2]? = some (.str ef eg) ∧ (((PySem.Challenge.rw_murmurline_k03_table_made).prog.main.file : Str) == ef) = true) ∧ (∃ el eu eq, K.lookup (Hd.cellOf K (He.ma K (He.ga K "BadSize") "__init__")) = some ⟨el, eu, .cell (some (.ref (He.ga K "BadSize"))), eq⟩) ∧ (PySem.W.findIn K (.ref (He.ga K "BadSize")) "size" = some none) ∧ (PySem.W.findIn K (.ref (He.ga K "BadSize")) "__getattribute__" = some (some (.builtin "BaseException.__getattribute__"))) ∧ (PySem.W.findIn K (.ref (He.ga K "BadSize")) "__getattr__" = some none) ∧ (PySem.W.hasDictIn K (He.ga K "BadSize") = true) ∧ (PySem.W.findIn K (.ref (He.ga K "BadSize")) "__class__" = some (some (.builtin "object.__class__"))) ∧ (PySem.W.mroIn K (He.ga K "BadSize") (.type "object") = some true) := by
  unfold hdB8 at h
  obtain ⟨h0, h⟩ := He.ba h
  obtain ⟨h1, h⟩ := He.ba h
  obtain ⟨h2, h⟩ := He.ba h
  obtain ⟨h3, h⟩ := He.ba h
  obtain ⟨h4, h⟩ := He.ba h
  obtain ⟨h5, h⟩ := He.ba h
  obtain ⟨h6, h⟩ := He.ba h
  obtain ⟨h7, h⟩ := He.ba h
  obtain ⟨h8, h⟩ := He.ba h
  obtain ⟨h9, h⟩ := He.ba h
  obtain ⟨h10, h⟩ := He.ba h
  obtain ⟨h11, h⟩ := He.ba h
  obtain ⟨h12, h⟩ := He.ba h
  obtain ⟨h13, h⟩ := He.ba h
  obtain ⟨h14, h⟩ := He.ba h
  obtain ⟨h15, h⟩ := He.ba h
  obtain ⟨h16, h⟩ := He.ba h
  obtain ⟨h17, h⟩ := He.ba h
  obtain ⟨h18, h⟩ := He.ba h
  exact ⟨h0, of_decide_eq_true h1, He.eqO_ok h2, Hd.ec_ok h3, He.eqO_ok h4, of_decide_eq_true h5, h6, of_decide_eq_true h7, of_decide_eq_true h8, He.eqO_ok h9, He.eqO_ok h10, of_decide_eq_true h11, Hd.file_ok h12, Hd.cell_ok h13, He.eqO_ok h14, He.eqO_ok h15, He.eqO_ok h16, h17, He.eqO_ok h18, of_decide_eq_true h⟩
def hdB9 (K : PySem.W.Frag) : Bool := decide (PySem.W.subIn K (.ref (He.ga K "BadSize")) (.ref (He.ga K "MurmurError")) = some true) && (decide (PySem.W.subIn K (.ref (He.ga K "BadSize")) (.ref (He.ga K "BadSize")) = some true) && (decide (PySem.W.subIn K (.ref (He.ga K "BadSize")) (.ref (He.ga K "BadTable")) = some false) && (decide (PySem.W.subIn K (.ref (He.ga K "BadSize")) (.ref (He.ga K "UnknownWord")) = some false) && (decide (PySem.W.subIn K (.ref (He.ga K "BadSize")) (.ref (He.ga K "SizeMismatch")) = some false) && (decide (PySem.W.subIn K (.ref (He.ga K "BadSize")) (.ref (He.ga K "BadCount")) = some false) && (decide (PySem.W.subIn K (.ref (He.ga K "BadSize")) (.ref (He.ga K "BadPerson")) = some false) && (decide (PySem.W.subIn K (.ref (He.ga K "BadSize")) (.ref (He.ga K "BadLetter")) = some false) && (decide (PySem.W.subIn K (.ref (He.ga K "BadSize")) (.ref (He.ga K "UnknownPerson")) = some false) && (decide (PySem.W.subIn K (.ref (He.ga K "BadSize")) (.ref (He.ga K "TooMany")) = some false) && (decide (PySem.W.subIn K (.ref (He.ga K "BadSize")) (.ref (He.ga K "BadPattern")) = some false) && (decide (PySem.W.subIn K (.ref (He.ga K "BadSize")) (.ref (He.ga K "SameWord")) = some false) && (decide (PySem.W.subIn K (.ref (He.ga K "BadSize")) (.ref (He.ga K "UnknownClue")) = some false) && (decide (PySem.W.subIn K (.ref (He.ga K "BadSize")) (.ref (He.ga K "BadPlace")) = some false) && (decide (PySem.W.subIn K (.ref (He.ga K "BadSize")) (.ref (He.ga K "TooLong")) = some false) && (decide (PySem.W.subIn K (.ref (He.ga K "BadSize")) (.ref (He.ga K "Melted")) = some false) && (decide (PySem.W.subIn K (.ref (He.ga K "BadSize")) (.ref (He.ga K "NothingToUndo")) = some false) && (decide (PySem.W.subIn K (.ref (He.ga K "BadSize")) (.ref (He.ga K "NothingToRedo")) = some false) && (decide (PySem.W.subIn K (.ref (He.ga K "BadSize")) (.ref (He.ga K "Refused")) = some false) && (decide (PySem.W.subIn K (.ref (He.ga K "BadSize")) (.ref (He.ga K "BadLine")) = some false))))))))))))))))))))
theorem hdT9 {K : PySem.W.Frag} (h : hdB9 K = true) : (PySem.W.subIn K (.ref (He.ga K "BadSize")) (.ref (He.ga K "MurmurError")) = some true) ∧ (PySem.W.subIn K (.ref (He.ga K "BadSize")) (.ref (He.ga K "BadSize")) = some true) ∧ (PySem.W.subIn K (.ref (He.ga K "BadSize")) (.ref (He.ga K "BadTable")) = some false) ∧ (PySem.W.subIn K (.ref (He.ga K "BadSize")) (.ref (He.ga K "UnknownWord")) = some false) ∧ (PySem.W.subIn K (.ref (He.ga K "BadSize")) (.ref (He.ga K "SizeMismatch")) = some false) ∧ (PySem.W.subIn K (.ref (He.ga K "BadSize")) (.ref (He.ga K "BadCount")) = some false) ∧ (PySem.W.subIn K (.ref (He.ga K "BadSize")) (.ref (He.ga K "BadPerson")) = some false) ∧ (PySem.W.subIn K (.ref (He.ga K "BadSize")) (.ref (He.ga K "BadLetter")) = some false) ∧ (PySem.W.subIn K (.ref (He.ga K "BadSize")) (.ref (He.ga K "UnknownPerson")) = some false) ∧ (PySem.W.subIn K (.ref (He.ga K "BadSize")) (.ref (He.ga K "TooMany")) = some false) ∧ (PySem.W.subIn K (.ref (He.ga K "BadSize")) (.ref (He.ga K "BadPattern")) = some false) ∧ (PySem.W.subIn K (.ref (He.ga K "BadSize")) (.ref (He.ga K "SameWord")) = some false) ∧ (PySem.W.subIn K (.ref (He.ga K "BadSize")) (.ref (He.ga K "UnknownClue")) = some false) ∧ (PySem.W.subIn K (.ref (He.ga K "BadSize")) (.ref (He.ga K "BadPlace")) = some false) ∧ (PySem.W.subIn K (.ref (He.ga K "BadSize")) (.ref (He.ga K "TooLong")) = some false) ∧ (PySem.W.subIn K (.ref (He.ga K "BadSize")) (.ref (He.ga K "Melted")) = some false) ∧ (PySem.W.subIn K (.ref (He.ga K "BadSize")) (.ref (He.ga K "NothingToUndo")) = some false) ∧ (PySem.W.subIn K (.ref (He.ga K "BadSize")) (.ref (He.ga K "NothingToRedo")) = some false) ∧ (PySem.W.subIn K (.ref (He.ga K "BadSize")) (.ref (He.ga K "Refused")) = some false) ∧ (PySem.W.subIn K (.ref (He.ga K "BadSize")) (.ref (He.ga K "BadLine")) = some false) := by
  unfold hdB9 at h
  obtain ⟨h0, h⟩ := He.ba h
  obtain ⟨h1, h⟩ := He.ba h
  obtain ⟨h2, h⟩ := He.ba h
  obtain ⟨h3, h⟩ := He.ba h
  obtain ⟨h4, h⟩ := He.ba h
  obtain ⟨h5, h⟩ := He.ba h
  obtain ⟨h6, h⟩ := He.ba h
  obtain ⟨h7, h⟩ := He.ba h
  obtain ⟨h8, h⟩ := He.ba h
  obtain ⟨h9, h⟩ := He.ba h
  obtain ⟨h10, h⟩ := He.ba h
  obtain ⟨h11, h⟩ := He.ba h
  obtain ⟨h12, h⟩ := He.ba h
  obtain ⟨h13, h⟩ := He.ba h
  obtain ⟨h14, h⟩ := He.ba h
  obtain ⟨h15, h⟩ := He.ba h
  obtain ⟨h16, h⟩ := He.ba h
  obtain ⟨h17, h⟩ := He.ba h
  obtain ⟨h18, h⟩ := He.ba h
  exact ⟨of_decide_eq_true h0, of_decide_eq_true h1, of_decide_eq_true h2, of_decide_eq_true h3, of_decide_eq_true h4, of_decide_eq_true h5, of_decide_eq_true h6, of_decide_eq_true h7, of_decide_eq_true h8, of_decide_eq_true h9, of_decide_eq_true h10, of_decide_eq_true h11, of_decide_eq_true h12, of_decide_eq_true h13, of_decide_eq_true h14, of_decide_eq_true h15, of_decide_eq_true h16, of_decide_eq_true h17, of_decide_eq_true h18, of_decide_eq_true h⟩
def hdB10 (K : PySem.W.Frag) : Bool := Hd.ecB K (He.ga K "UnknownWord") && (He.eqO (PySem.W.findIn K (.ref (He.ga K "UnknownWord")) "__setattr__") (some (some (.builtin "object.__setattr__"))) && (decide (PySem.W.subIn K (.ref (He.ga K "UnknownWord")) (.type "BaseException") = some true) && (PySem.W.keepIn K (.ref (He.ga K "UnknownWord")) && (decide (PySem.W.mroIn K (He.ga K "UnknownWord") (.ref (He.ga K "UnknownWord")) = some true) && (decide (PySem.W.subIn K (.ref (He.ga K "UnknownWord")) (.type "ValueError") = some true) && (He.eqO (PySem.W.ks_superIn K (He.ga K "UnknownWord") (He.ga K "UnknownWord") "__init__") (some (some (.builtin "ValueError.__init__"))) && (He.eqO (PySem.W.findIn K (.ref (He.ga K "UnknownWord")) "__init__") (some (some (.ref (He.ma K (He.ga K "UnknownWord") "__init__")))) && (decide (PySem.W.typeIn K (.ref (He.ma K (He.ga K "UnknownWord") "__init__")) = some (.type "function")) && (Hd.fileB K (Hd.codeOf K (He.ma K (He.ga K "UnknownWord") "__init__")) (PySem.Challenge.rw_murmurline_k03_table_made).prog.main.file && (Hd.cellB K (Hd.cellOf K (He.ma K (He.ga K "UnknownWord") "__init__")) (He.ga K "UnknownWord") && (He.eqO (PySem.W.findIn K (.ref (He.ga K "UnknownWord")) "word") (some none) && (He.eqO (PySem.W.findIn K (.ref (He.ga K "UnknownWord")) "__getattribute__") (some (some (.builtin "BaseException.__getattribute__"))) && (He.eqO (PySem.W.findIn K (.ref (He.ga K "UnknownWord")) "__getattr__") (some none) && (PySem.W.hasDictIn K (He.ga K "UnknownWord") && (He.eqO (PySem.W.findIn K (.ref (He.ga K "UnknownWord")) "__class__") (some (some (.builtin "object.__class__"))) && (decide (PySem.W.mroIn K (He.ga K "UnknownWord") (.type "object") = some true) && (decide (PySem.W.subIn K (.ref (He.ga K "UnknownWord")) (.ref (He.ga K "MurmurError")) = some true) && (decide (PySem.W.subIn K (.ref (He.ga K "UnknownWord")) (.ref (He.ga K "BadSize")) = some false) && (decide (PySem.W.subIn K (.ref (He.ga K "UnknownWord")) (.ref (He.ga K "BadTable")) = some false))))))))))))))))))))
theorem hdT10 {K : PySem.W.Frag} (h : hdB10 K = true) : (∃ nm q N bs bm sn sub ab col dd k0 k1 k2 k3 k5, K.lookup (He.ga K "UnknownWord") = some (excClassObj nm q (He.ga K "UnknownWord") N bs bm true sn sub ab col dd k0 k1 k2 k3 k5 "ValueError.__new__") ∧ PySem.HandSPX.refsVE bm = true) ∧ (PySem.W.findIn K (.ref (He.ga K "UnknownWord")) "__setattr__" = some (some (.builtin "object.__setattr__"))) ∧ (PySem.W.subIn K (.ref (He.ga K "UnknownWord")) (.type "BaseException") = some true) ∧ (PySem.W.keepIn K (.ref (He.ga K "UnknownWord")) = true) ∧ (PySem.W.mroIn K (He.ga K "UnknownWord") (.ref (He.ga K "UnknownWord")) = some true) ∧ (PySem.W.subIn K (.ref (He.ga K "UnknownWord")) (.type "ValueError") = some true) ∧ (PySem.W.ks_superIn K (He.ga K "UnknownWord") (He.ga K "UnknownWord") "__init__" = some (some (.builtin "ValueError.__init__"))) ∧ (PySem.W.findIn K (.ref (He.ga K "UnknownWord")) "__init__" = some (some (.ref (He.ma K (He.ga K "UnknownWord") "__init__")))) ∧ (PySem.W.typeIn K (.ref (He.ma K (He.ga K "UnknownWord") "__init__")) = some (.type "function")) ∧ (∃ ek ew ev er ef eg, K.lookup (Hd.codeOf K (He.ma K (He.ga K "UnknownWord") "__init__")) = some ⟨ek, ew, .fields ev, er⟩ ∧ ev[2]? = some (.str ef eg) ∧ (((PySem.Challenge.rw_murmurline_k03_table_made).prog.main.file : Str) == ef) = true) ∧ (∃ el eu eq, K.lookup (Hd.cellOf K (He.ma K (He.ga K "UnknownWord") "__init__")) = some ⟨el, eu, .cell (some (.ref (He.ga K "UnknownWord"))), eq⟩) ∧ (PySem.W.findIn K (.ref (He.ga K "UnknownWord")) "word" = some none) ∧ (PySem.W.findIn K (.ref (He.ga K "UnknownWord")) "__getattribute__" = some (some (.builtin "BaseException.__getattribute__"))) ∧ (PySem.W.findIn K (.ref (He.ga K "UnknownWord")) "__getattr__" = some none) ∧ (PySem.W.hasDictIn K (He.ga K "UnknownWord") = true) ∧ (PySem.W.findIn K (.ref (He.ga K "UnknownWord")) "__class__" = some (some (.builtin "object.__class__"))) ∧ (PySem.W.mroIn K (He.ga K "UnknownWord") (.type "object") = some true) ∧ (PySem.W.subIn K (.ref (He.ga K "UnknownWord")) (.ref (He.ga K "MurmurError")) = some true) ∧ (PySem.W.subIn K (.ref (He.ga K "UnknownWord")) (.ref (He.ga K "BadSize")) = some false) ∧ (PySem.W.subIn K (.ref (He.ga K "UnknownWord")) (.ref (He.ga K "BadTable")) = some false) := by
  unfold hdB10 at h
  obtain ⟨h0, h⟩ := He.ba h
  obtain ⟨h1, h⟩ := He.ba h
  obtain ⟨h2, h⟩ := He.ba h
  obtain ⟨h3, h⟩ := He.ba h
  obtain ⟨h4, h⟩ := He.ba h
  obtain ⟨h5, h⟩ := He.ba h
  obtain ⟨h6, h⟩ := He.ba h
  obtain ⟨h7, h⟩ := He.ba h
  obtain ⟨h8, h⟩ := He.ba h
  obtain ⟨h9, h⟩ := He.ba h
  obtain ⟨h10, h⟩ := He.ba h
  obtain ⟨h11, h⟩ := He.ba h
  obtain ⟨h12, h⟩ := He.ba h
  obtain ⟨h13, h⟩ := He.ba h
  obtain ⟨h14, h⟩ := He.ba h
  obtain ⟨h15, h⟩ := He.ba h
  obtain ⟨h16, h⟩ := He.ba h
  obtain ⟨h17, h⟩ := He.ba h
  obtain ⟨h18, h⟩ := He.ba h
  exact ⟨Hd.ec_ok h0, He.eqO_ok h1, of_decide_eq_true h2, h3, of_decide_eq_true h4, of_decide_eq_true h5, He.eqO_ok h6, He.eqO_ok h7, of_decide_eq_true h8, Hd.file_ok h9, Hd.cell_ok h10, He.eqO_ok h11, He.eqO_ok h12, He.eqO_ok h13, h14, He.eqO_ok h15, of_decide_eq_true h16, of_decide_eq_true h17, of_decide_eq_true h18, of_decide_eq_true h⟩
def hdB11 (K : PySem.W.Frag) : Bool := decide (PySem.W.subIn K (.ref (He.ga K "UnknownWord")) (.ref (He.ga K "UnknownWord")) = some true) && (decide (PySem.W.subIn K (.ref (He.ga K "UnknownWord")) (.ref (He.ga K "SizeMismatch")) = some false) && (decide (PySem.W.subIn K (.ref (He.ga K "UnknownWord")) (.ref (He.ga K "BadCount")) = some false) && (decide (PySem.W.subIn K (.ref (He.ga K "UnknownWord")) (.ref (He.ga K "BadPerson")) = some false) && (decide (PySem.W.subIn K (.ref (He.ga K "UnknownWord")) (.ref (He.ga K "BadLetter")) = some false) && (decide (PySem.W.subIn K (.ref (He.ga K "UnknownWord")) (.ref (He.ga K "UnknownPerson")) = some false) && (decide (PySem.W.subIn K (.ref (He.ga K "UnknownWord")) (.ref (He.ga K "TooMany")) = some false) && (decide (PySem.W.subIn K (.ref (He.ga K "UnknownWord")) (.ref (He.ga K "BadPattern")) = some false) && (decide (PySem.W.subIn K (.ref (He.ga K "UnknownWord")) (.ref (He.ga K "SameWord")) = some false) && (decide (PySem.W.subIn K (.ref (He.ga K "UnknownWord")) (.ref (He.ga K "UnknownClue")) = some false) && (decide (PySem.W.subIn K (.ref (He.ga K "UnknownWord")) (.ref (He.ga K "BadPlace")) = some false) && (decide (PySem.W.subIn K (.ref (He.ga K "UnknownWord")) (.ref (He.ga K "TooLong")) = some false) && (decide (PySem.W.subIn K (.ref (He.ga K "UnknownWord")) (.ref (He.ga K "Melted")) = some false) && (decide (PySem.W.subIn K (.ref (He.ga K "UnknownWord")) (.ref (He.ga K "NothingToUndo")) = some false) && (decide (PySem.W.subIn K (.ref (He.ga K "UnknownWord")) (.ref (He.ga K "NothingToRedo")) = some false) && (decide (PySem.W.subIn K (.ref (He.ga K "UnknownWord")) (.ref (He.ga K "Refused")) = some false) && (decide (PySem.W.subIn K (.ref (He.ga K "UnknownWord")) (.ref (He.ga K "BadLine")) = some false)))))))))))))))))
theorem hdT11 {K : PySem.W.Frag} (h : hdB11 K = true) : (PySem.W.subIn K (.ref (He.ga K "UnknownWord")) (.ref (He.ga K "UnknownWord")) = some true) ∧ (PySem.W.subIn K (.ref (He.ga K "UnknownWord")) (.ref (He.ga K "SizeMismatch")) = some false) ∧ (PySem.W.subIn K (.ref (He.ga K "UnknownWord")) (.ref (He.ga K "BadCount")) = some false) ∧ (PySem.W.subIn K (.ref (He.ga K "UnknownWord")) (.ref (He.ga K "BadPerson")) = some false) ∧ (PySem.W.subIn K (.ref (He.ga K "UnknownWord")) (.ref (He.ga K "BadLetter")) = some false) ∧ (PySem.W.subIn K (.ref (He.ga K "UnknownWord")) (.ref (He.ga K "UnknownPerson")) = some false) ∧ (PySem.W.subIn K (.ref (He.ga K "UnknownWord")) (.ref (He.ga K "TooMany")) = some false) ∧ (PySem.W.subIn K (.ref (He.ga K "UnknownWord")) (.ref (He.ga K "BadPattern")) = some false) ∧ (PySem.W.subIn K (.ref (He.ga K "UnknownWord")) (.ref (He.ga K "SameWord")) = some false) ∧ (PySem.W.subIn K (.ref (He.ga K "UnknownWord")) (.ref (He.ga K "UnknownClue")) = some false) ∧ (PySem.W.subIn K (.ref (He.ga K "UnknownWord")) (.ref (He.ga K "BadPlace")) = some false) ∧ (PySem.W.subIn K (.ref (He.ga K "UnknownWord")) (.ref (He.ga K "TooLong")) = some false) ∧ (PySem.W.subIn K (.ref (He.ga K "UnknownWord")) (.ref (He.ga K "Melted")) = some false) ∧ (PySem.W.subIn K (.ref (He.ga K "UnknownWord")) (.ref (He.ga K "NothingToUndo")) = some false) ∧ (PySem.W.subIn K (.ref (He.ga K "UnknownWord")) (.ref (He.ga K "NothingToRedo")) = some false) ∧ (PySem.W.subIn K (.ref (He.ga K "UnknownWord")) (.ref (He.ga K "Refused")) = some false) ∧ (PySem.W.subIn K (.ref (He.ga K "UnknownWord")) (.ref (He.ga K "BadLine")) = some false) := by
  unfold hdB11 at h
  obtain ⟨h0, h⟩ := He.ba h
  obtain ⟨h1, h⟩ := He.ba h
  obtain ⟨h2, h⟩ := He.ba h
  obtain ⟨h3, h⟩ := He.ba h
  obtain ⟨h4, h⟩ := He.ba h
  obtain ⟨h5, h⟩ := He.ba h
  obtain ⟨h6, h⟩ := He.ba h
  obtain ⟨h7, h⟩ := He.ba h
  obtain ⟨h8, h⟩ := He.ba h
  obtain ⟨h9, h⟩ := He.ba h
  obtain ⟨h10, h⟩ := He.ba h
  obtain ⟨h11, h⟩ := He.ba h
  obtain ⟨h12, h⟩ := He.ba h
  obtain ⟨h13, h⟩ := He.ba h
  obtain ⟨h14, h⟩ := He.ba h
  obtain ⟨h15, h⟩ := He.ba h
  exact ⟨of_decide_eq_true h0, of_decide_eq_true h1, of_decide_eq_true h2, of_decide_eq_true h3, of_decide_eq_true h4, of_decide_eq_true h5, of_decide_eq_true h6, of_decide_eq_true h7, of_decide_eq_true h8, of_decide_eq_true h9, of_decide_eq_true h10, of_decide_eq_true h11, of_decide_eq_true h12, of_decide_eq_true h13, of_decide_eq_true h14, of_decide_eq_true h15, of_decide_eq_true h⟩
def hdB (K : PySem.W.Frag) : Bool := hdB0 K && (hdB1 K && (hdB2 K && (hdB3 K && (hdB4 K && (hdB5 K && (hdB6 K && (hdB7 K && (hdB8 K && (hdB9 K && (hdB10 K && (hdB11 K)))))))))))
def hdF0 : Hd.FnX := ⟨fun K => (He.ga K "is_word"), "is_word", "is_word", defArgs sIsWord, defBody sIsWord, defScope sIsWord, false⟩
def hdF1 : Hd.FnX := ⟨fun K => (He.ga K "all_words"), "all_words", "all_words", defArgs sAllWords, defBody sAllWords, defScope sAllWords, false⟩
def hdF2 : Hd.FnX := ⟨fun K => (He.ga K "is_size"), "is_size", "is_size", defArgs sIsSize, defBody sIsSize, defScope sIsSize, false⟩
def hdF3 : Hd.FnX := ⟨fun K => (He.ga K "check_size"), "check_size", "check_size", defArgs sCheckSize, defBody sCheckSize, defScope sCheckSize, false⟩
def hdF4 : Hd.FnX := ⟨fun K => (He.ga K "check_word"), "check_word", "check_word", defArgs sCheckWord, defBody sCheckWord, defScope sCheckWord, false⟩
def hdF5 : Hd.FnX := ⟨fun K => (He.ga K "ascending"), "ascending", "ascending", defArgs sAsc, defBody sAsc, defScope sAsc, false⟩
def hdF6 : Hd.FnX := ⟨fun K => (He.ma K (He.ga K "Table") "__init__"), "__init__", "Table.__init__", defArgs sInit, defBody sInit, defScope sInit, false⟩
def hdF7 : Hd.FnX := ⟨fun K => (He.ma K (He.ga K "Table") "rows"), "rows", "Table.rows", defArgs sRows, defBody sRows, defScope sRows, false⟩
def hdF8 : Hd.FnX := ⟨fun K => (He.ga K "_law_box"), "_law_box", "_law_box", defArgs sBox, defBody sBox, defScope sBox, false⟩
def hdF9 : Hd.FnX := ⟨fun K => (He.ga K "_law_take"), "_law_take", "_law_take", defArgs sTake, defBody sTake, defScope sTake, false⟩
def hdF10 : Hd.FnX := ⟨fun K => (He.ga K "_law_words"), "_law_words", "_law_words", defArgs sWords, defBody sWords, defScope sWords, false⟩
def hdF11 : Hd.FnX := ⟨fun K => (He.ga K "_law_rows"), "_law_rows", "_law_rows", defArgs sRowsL, defBody sRowsL, defScope sRowsL, false⟩
def hdF12 : Hd.FnX := ⟨fun K => (He.ga K "_law_is_int"), "_law_is_int", "_law_is_int", defArgs sIsInt, defBody sIsInt, defScope sIsInt, false⟩
def hdF13 : Hd.FnX := ⟨fun K => (He.ga K "_law_is_words"), "_law_is_words", "_law_is_words", defArgs sIsWords, defBody sIsWords, defScope sIsWords, false⟩
def hdF14 : Hd.FnX := ⟨fun K => (He.ga K "_law_same"), "_law_same", "_law_same", defArgs sSame, defBody sSame, defScope sSame, false⟩
def hdF15 : Hd.FnX := ⟨fun K => (He.ga K "_law_single"), "_law_single", "_law_single", defArgs sSingle, defBody sSingle, defScope sSingle, false⟩
def hdF16 : Hd.FnX := ⟨fun K => (He.ga K "check_words"), "check_words", "check_words", defArgs sCheckWords, defBody sCheckWords, defScope sCheckWords, false⟩
def hdF17 : Hd.FnX := ⟨fun K => (He.ga K "_law_far"), "_law_far", "_law_far", defArgs sFar, defBody sFar, defScope sFar, false⟩
def hdF18 : Hd.FnX := ⟨fun K => (He.ma K (He.ga K "Table") "__iter__"), "__iter__", "Table.__iter__", defArgs sIter, defBody sIter, defScope sIter, false⟩
def hdF19 : Hd.FnX := ⟨fun K => (Hd.recA K (Hd.cmA K (He.ga K "Table") "identity") "classmethod"), "identity", "Table.identity", defArgs sIdent, defBody sIdent, defScope sIdent, false⟩
def hdF20 : Hd.FnX := ⟨fun K => (Hd.recA K (Hd.cmA K (He.ga K "Table") "full") "classmethod"), "full", "Table.full", defArgs sFull, defBody sFull, defScope sFull, false⟩
def hdF21 : Hd.FnX := ⟨fun K => (Hd.recA K (Hd.cmA K (He.ga K "Table") "empty") "classmethod"), "empty", "Table.empty", defArgs sEmpty, defBody sEmpty, defScope sEmpty, false⟩
def hdF22 : Hd.FnX := ⟨fun K => (Hd.recA K (Hd.cmA K (He.ga K "Table") "of") "staticmethod"), "of", "Table.of", defArgs sOf, defBody sOf, defScope sOf, false⟩
def hdF23 : Hd.FnX := ⟨fun K => (He.ga K "_law_same_rows"), "_law_same_rows", "_law_same_rows", defArgs sSameR, defBody sSameR, defScope sSameR, false⟩
def hdF24 : Hd.FnX := ⟨fun K => (He.ga K "_law_pairs"), "_law_pairs", "_law_pairs", defArgs sPairsL, defBody sPairsL, defScope sPairsL, false⟩
def hdF25 : Hd.FnX := ⟨fun K => (He.ga K "_law_mixed"), "_law_mixed", "_law_mixed", defArgs sMixed, defBody sMixed, defScope sMixed, false⟩
def hdF26 : Hd.FnX := ⟨fun K => (He.ga K "_law_smaller"), "_law_smaller", "_law_smaller", defArgs sSmaller, defBody sSmaller, defScope sSmaller, false⟩
def hdF27 : Hd.FnX := ⟨fun K => (He.ga K "_law_made_error"), "_law_made_error", "_law_made_error", defArgs sMadeErr, defBody sMadeErr, defScope sMadeErr, false⟩
def hdF28 : Hd.FnX := ⟨fun K => (He.ga K "law"), "law", "law", defArgs sLaw, defBody sLaw, defScope sLaw, false⟩
def hdF29 : Hd.FnX := ⟨fun K => (He.ma K (He.ga K "BadSize") "__init__"), "__init__", "BadSize.__init__", defArgs sBadSizeI, defBody sBadSizeI, defScope sBadSizeI, true⟩
def hdF30 : Hd.FnX := ⟨fun K => (He.ma K (He.ga K "UnknownWord") "__init__"), "__init__", "UnknownWord.__init__", defArgs sUnknownWordI, defBody sUnknownWordI, defScope sUnknownWordI, true⟩
def hdF : List Hd.FnX := [hdF0, hdF1, hdF2, hdF3, hdF4, hdF5, hdF6, hdF7, hdF8, hdF9, hdF10, hdF11, hdF12, hdF13, hdF14, hdF15, hdF16, hdF17, hdF18, hdF19, hdF20, hdF21, hdF22, hdF23, hdF24, hdF25, hdF26, hdF27, hdF28, hdF29] ++ [hdF30]
abbrev hdR : PySem.W.OpenRow := PySem.W.OpenLaw.row PySem.Challenge.rw_murmurline_k03_table_made
def hdAs (g : Addr → Option Obj) : List Addr := Hd.reach g ["Table", "MurmurError", "BadSize", "BadTable", "UnknownWord", "SizeMismatch", "BadCount", "BadPerson", "BadLetter", "UnknownPerson", "TooMany", "BadPattern", "SameWord", "UnknownClue", "BadPlace", "TooLong", "Melted", "NothingToUndo", "NothingToRedo", "Refused", "BadLine"] ["is_word", "all_words", "is_size", "check_size", "check_word", "ascending", "_law_box", "_law_take", "_law_words", "_law_rows", "_law_is_int", "_law_is_words", "_law_same", "_law_single", "check_words", "_law_far", "_law_same_rows", "_law_pairs", "_law_mixed", "_law_smaller", "_law_made_error", "law"] [("Table", ["__init__", "rows", "__iter__", "identity", "full", "empty", "of"]), ("BadSize", ["__init__"]), ("UnknownWord", ["__init__"])]
abbrev hdH : PySem.W.Hook := Hd.hookB hdAs hdB hdF
def hdO (s : PySem.W.SharedT) : Hd.AlB := Hd.obsBG hdAs hdB hdF (HandSHeadRun.getT s)
theorem hdO_eq (s : PySem.W.SharedT) : hdO s = hdH.obs s.abs := Hd.obsBG_eq (HandSHeadRun.getT_eq s)
def hdN0 : List PySem.Str := ["_wall", "MurmurError", "BadSize", "BadTable", "UnknownWord", "SizeMismatch", "BadCount", "BadPerson", "BadLetter", "UnknownPerson", "TooMany", "BadPattern", "SameWord", "UnknownClue", "BadPlace", "TooLong", "Melted", "NothingToUndo", "NothingToRedo", "Refused", "BadLine", "is_size", "check_size", "check_same_size", "is_word", "all_words", "check_word", "check_words", "ascending", "Table"]
def hdN1 : List PySem.Str := ["_law_single", "_law_box", "_law_take", "_law_words", "_law_rows", "_law_is_int", "_law_is_words", "_law_same", "_law_same_rows", "_law_mixed", "_law_pairs", "_law_far", "_law_made_error", "_law_smaller"]
def hdN : List PySem.Str := hdN0 ++ hdN1
set_option maxHeartbeats 0 in
theorem hd_run (w : World) : HandSHeadRun.RunEq hdR (PySem.W.view hdR.prog [47]) hdH hdO 12000 hdN w := by
  intro os
  kernel_rfl
theorem hd_facts {w : World} {K : PySem.W.Frag} {h : Heap} {mg : Str → Option Value} {fa : Addr} (X : K.In h) (G : h.Ns mainGlobals mg) (hfa : mg "law" = some (.ref fa)) (c : Hd.SaysB hdB hdF K) :
    ∃ fd : FuncData, (∀ (s : Shared) (v : Value), BindsTo s fd ⟨[v], []⟩ [("_law_script", v)]) ∧ ∀ base : Heap, K.In base → base.Ns mainGlobals mg → FnOk (PySem.Challenge.rw_murmurline_k03_table_made).prog w K mg base CX0 10 fa fd ["_law_script"] (spLaw K) := by
  have cB := c.bool
  unfold hdB at cB
  obtain ⟨cB0, cB⟩ := He.ba cB
  obtain ⟨aC, a1, k1, a2, k2, a3, k3, a4, k4, a5, k5, a6, k6, a7, i7, k7, a8, i8, k8, a9⟩ := hdT0 cB0
  obtain ⟨cB1, cB⟩ := He.ba cB
  obtain ⟨k9, a10, k10, a11, k11, a12, k12, a13, k13, a14, k14, a15, k15, a16, k16, a17, k17, a18, k18, a19⟩ := hdT1 cB1
  obtain ⟨cB2, cB⟩ := He.ba cB
  obtain ⟨i19, k19, a20, r20, n20, k20, a21, r21, n21, k21, a22, r22, n22, k22, a23, r23, k23, a24, k24, a25⟩ := hdT2 cB2
  obtain ⟨cB3, cB⟩ := He.ba cB
  obtain ⟨k25, a26, k26, a27, k27, a28, k28, a29, k29, pg, hd, po, sa, mk, kc, nS, nR, nP, rd, rg⟩ := hdT3 cB3
  obtain ⟨cB4, cB⟩ := He.ba cB
  obtain ⟨ms, ia, ic, it, im, sf, nf, z_len, z_range, z_all, z_list, z_tuple, z_enumerate, z_isinstance, z_int, z_bool, z_str, z_abs, z_iter, z_sorted⟩ := hdT4 cB4
  obtain ⟨cB5, cB⟩ := He.ba cB
  obtain ⟨z_ValueError, z_super, gM, bM, tM_, g0_, b0_, t0_, g1_, b1_, t1_, g2_, b2_, t2_, g3_, b3_, t3_, g4_, b4_, t4_⟩ := hdT5 cB5
  obtain ⟨cB6, cB⟩ := He.ba cB
  obtain ⟨g5_, b5_, t5_, g6_, b6_, t6_, g7_, b7_, t7_, g8_, b8_, t8_, g9_, b9_, t9_, g10_, b10_, t10_, g11_, b11_⟩ := hdT6 cB6
  obtain ⟨cB7, cB⟩ := He.ba cB
  obtain ⟨t11_, g12_, b12_, t12_, g13_, b13_, t13_, g14_, b14_, t14_, g15_, b15_, t15_, g16_, b16_, t16_, g17_, b17_, t17_, g18_⟩ := hdT7 cB7
  obtain ⟨cB8, cB⟩ := He.ba cB
  obtain ⟨b18_, t18_, stn, lC0, sa0, ex0, kC0, se0, vE0, al0, iI0, tI0, lc0, ce0, no0_0, xg0, xk0, xd0, xa0, xm0⟩ := hdT8 cB8
  obtain ⟨cB9, cB⟩ := He.ba cB
  obtain ⟨sM0, s0_0, s0_1, s0_2, s0_3, s0_4, s0_5, s0_6, s0_7, s0_8, s0_9, s0_10, s0_11, s0_12, s0_13, s0_14, s0_15, s0_16, s0_17, s0_18⟩ := hdT9 cB9
  obtain ⟨cB10, cB⟩ := He.ba cB
  obtain ⟨lC2, sa2, ex2, kC2, se2, vE2, al2, iI2, tI2, lc2, ce2, no2_0, xg2, xk2, xd2, xa2, xm2, sM2, s2_0, s2_1⟩ := hdT10 cB10
  obtain ⟨s2_2, s2_3, s2_4, s2_5, s2_6, s2_7, s2_8, s2_9, s2_10, s2_11, s2_12, s2_13, s2_14, s2_15, s2_16, s2_17, s2_18⟩ := hdT11 cB
  obtain ⟨oc1, od1, sl1, kV1, dc1, pm1, an1, cd1, ct1, l1, c1⟩ := Hd.fnx_plain (c.def_ 0 (d := hdF0) rfl).1 (c.def_ 0 (d := hdF0) rfl).2
  obtain ⟨oc2, od2, sl2, kV2, dc2, pm2, an2, cd2, ct2, l2, c2⟩ := Hd.fnx_plain (c.def_ 1 (d := hdF1) rfl).1 (c.def_ 1 (d := hdF1) rfl).2
  obtain ⟨oc3, od3, sl3, kV3, dc3, pm3, an3, cd3, ct3, l3, c3⟩ := Hd.fnx_plain (c.def_ 2 (d := hdF2) rfl).1 (c.def_ 2 (d := hdF2) rfl).2
  obtain ⟨oc4, od4, sl4, kV4, dc4, pm4, an4, cd4, ct4, l4, c4⟩ := Hd.fnx_plain (c.def_ 3 (d := hdF3) rfl).1 (c.def_ 3 (d := hdF3) rfl).2
  obtain ⟨oc5, od5, sl5, kV5, dc5, pm5, an5, cd5, ct5, l5, c5⟩ := Hd.fnx_plain (c.def_ 4 (d := hdF4) rfl).1 (c.def_ 4 (d := hdF4) rfl).2
  obtain ⟨oc6, od6, sl6, kV6, dc6, pm6, an6, cd6, ct6, l6, c6⟩ := Hd.fnx_plain (c.def_ 5 (d := hdF5) rfl).1 (c.def_ 5 (d := hdF5) rfl).2
  obtain ⟨oc7, od7, sl7, kV7, dc7, pm7, an7, cd7, ct7, l7, c7⟩ := Hd.fnx_plain (c.def_ 6 (d := hdF6) rfl).1 (c.def_ 6 (d := hdF6) rfl).2
  obtain ⟨oc8, od8, sl8, kV8, dc8, pm8, an8, cd8, ct8, l8, c8⟩ := Hd.fnx_plain (c.def_ 7 (d := hdF7) rfl).1 (c.def_ 7 (d := hdF7) rfl).2
  obtain ⟨oc9, od9, sl9, kV9, dc9, pm9, an9, cd9, ct9, l9, c9⟩ := Hd.fnx_plain (c.def_ 8 (d := hdF8) rfl).1 (c.def_ 8 (d := hdF8) rfl).2
  obtain ⟨oc10, od10, sl10, kV10, dc10, pm10, an10, cd10, ct10, l10, c10⟩ := Hd.fnx_plain (c.def_ 9 (d := hdF9) rfl).1 (c.def_ 9 (d := hdF9) rfl).2
  obtain ⟨oc11, od11, sl11, kV11, dc11, pm11, an11, cd11, ct11, l11, c11⟩ := Hd.fnx_plain (c.def_ 10 (d := hdF10) rfl).1 (c.def_ 10 (d := hdF10) rfl).2
  obtain ⟨oc12, od12, sl12, kV12, dc12, pm12, an12, cd12, ct12, l12, c12⟩ := Hd.fnx_plain (c.def_ 11 (d := hdF11) rfl).1 (c.def_ 11 (d := hdF11) rfl).2
  obtain ⟨oc13, od13, sl13, kV13, dc13, pm13, an13, cd13, ct13, l13, c13⟩ := Hd.fnx_plain (c.def_ 12 (d := hdF12) rfl).1 (c.def_ 12 (d := hdF12) rfl).2
  obtain ⟨oc14, od14, sl14, kV14, dc14, pm14, an14, cd14, ct14, l14, c14⟩ := Hd.fnx_plain (c.def_ 13 (d := hdF13) rfl).1 (c.def_ 13 (d := hdF13) rfl).2
  obtain ⟨oc15, od15, sl15, kV15, dc15, pm15, an15, cd15, ct15, l15, c15⟩ := Hd.fnx_plain (c.def_ 14 (d := hdF14) rfl).1 (c.def_ 14 (d := hdF14) rfl).2
  obtain ⟨oc16, od16, sl16, kV16, dc16, pm16, an16, cd16, ct16, l16, c16⟩ := Hd.fnx_plain (c.def_ 15 (d := hdF15) rfl).1 (c.def_ 15 (d := hdF15) rfl).2
  obtain ⟨oc17, od17, sl17, kV17, dc17, pm17, an17, cd17, ct17, l17, c17⟩ := Hd.fnx_plain (c.def_ 16 (d := hdF16) rfl).1 (c.def_ 16 (d := hdF16) rfl).2
  obtain ⟨oc18, od18, sl18, kV18, dc18, pm18, an18, cd18, ct18, l18, c18⟩ := Hd.fnx_plain (c.def_ 17 (d := hdF17) rfl).1 (c.def_ 17 (d := hdF17) rfl).2
  obtain ⟨oc19, od19, sl19, kV19, dc19, pm19, an19, cd19, ct19, l19, c19⟩ := Hd.fnx_plain (c.def_ 18 (d := hdF18) rfl).1 (c.def_ 18 (d := hdF18) rfl).2
  obtain ⟨oc20, od20, sl20, kV20, dc20, pm20, an20, cd20, ct20, l20, c20⟩ := Hd.fnx_plain (c.def_ 19 (d := hdF19) rfl).1 (c.def_ 19 (d := hdF19) rfl).2
  obtain ⟨oc21, od21, sl21, kV21, dc21, pm21, an21, cd21, ct21, l21, c21⟩ := Hd.fnx_plain (c.def_ 20 (d := hdF20) rfl).1 (c.def_ 20 (d := hdF20) rfl).2
  obtain ⟨oc22, od22, sl22, kV22, dc22, pm22, an22, cd22, ct22, l22, c22⟩ := Hd.fnx_plain (c.def_ 21 (d := hdF21) rfl).1 (c.def_ 21 (d := hdF21) rfl).2
  obtain ⟨oc23, od23, sl23, kV23, dc23, pm23, an23, cd23, ct23, l23, c23⟩ := Hd.fnx_plain (c.def_ 22 (d := hdF22) rfl).1 (c.def_ 22 (d := hdF22) rfl).2
  obtain ⟨oc24, od24, sl24, kV24, dc24, pm24, an24, cd24, ct24, l24, c24⟩ := Hd.fnx_plain (c.def_ 23 (d := hdF23) rfl).1 (c.def_ 23 (d := hdF23) rfl).2
  obtain ⟨oc25, od25, sl25, kV25, dc25, pm25, an25, cd25, ct25, l25, c25⟩ := Hd.fnx_plain (c.def_ 24 (d := hdF24) rfl).1 (c.def_ 24 (d := hdF24) rfl).2
  obtain ⟨oc26, od26, sl26, kV26, dc26, pm26, an26, cd26, ct26, l26, c26⟩ := Hd.fnx_plain (c.def_ 25 (d := hdF25) rfl).1 (c.def_ 25 (d := hdF25) rfl).2
  obtain ⟨oc27, od27, sl27, kV27, dc27, pm27, an27, cd27, ct27, l27, c27⟩ := Hd.fnx_plain (c.def_ 26 (d := hdF26) rfl).1 (c.def_ 26 (d := hdF26) rfl).2
  obtain ⟨oc28, od28, sl28, kV28, dc28, pm28, an28, cd28, ct28, l28, c28⟩ := Hd.fnx_plain (c.def_ 27 (d := hdF27) rfl).1 (c.def_ 27 (d := hdF27) rfl).2
  obtain ⟨oc29, od29, sl29, kV29, dc29, pm29, an29, cd29, ct29, l29, c29⟩ := Hd.fnx_plain (c.def_ 28 (d := hdF28) rfl).1 (c.def_ 28 (d := hdF28) rfl).2
  obtain ⟨rs20, r20⟩ := r20
  obtain ⟨rs21, r21⟩ := r21
  obtain ⟨rs22, r22⟩ := r22
  obtain ⟨rs23, r23⟩ := r23
  obtain ⟨tM, ms⟩ := ms
  obtain ⟨nm0, q0, N0, bs0, bm0, sn0, su0, ab0, co0, dd0, x0, y0, u0, v0, w0, lC0, rV0⟩ := lC0
  obtain ⟨eo0, ey0, es0, eV0, ed0, ep0, ez0, et0, lk0, cd0_⟩ := Hd.fnx_sup (c.def_ 29 (d := hdF29) rfl).1 (c.def_ 29 (d := hdF29) rfl).2
  obtain ⟨ek0, ew0, ev0, er0, ef0, eg0, lc0, vs0, fl0⟩ := lc0
  obtain ⟨el0, eu0, eq0, ce0⟩ := ce0
  obtain ⟨nm2, q2, N2, bs2, bm2, sn2, su2, ab2, co2, dd2, x2, y2, u2, v2, w2, lC2, rV2⟩ := lC2
  obtain ⟨eo2, ey2, es2, eV2, ed2, ep2, ez2, et2, lk2, cd2_⟩ := Hd.fnx_sup (c.def_ 30 (d := hdF30) rfl).1 (c.def_ 30 (d := hdF30) rfl).2
  obtain ⟨ek2, ew2, ev2, er2, ef2, eg2, lc2, vs2, fl2⟩ := lc2
  obtain ⟨el2, eu2, eq2, ce2⟩ := ce2
  exact all_mk (l := PySem.Challenge.rw_murmurline_k03_table_made) X G hfa aC a1 l1 c1 k1 a2 l2 c2 k2 a3 l3 c3 k3 a4 l4 c4 k4 a5 l5 c5 k5 a6 l6 c6 k6 a7 i7 l7 c7 k7 a8 i8 l8 c8 k8 a9 l9 c9 k9 a10 l10 c10 k10 a11 l11 c11 k11 a12 l12 c12 k12 a13 l13 c13 k13 a14 l14 c14 k14 a15 l15 c15 k15 a16 l16 c16 k16 a17 l17 c17 k17 a18 l18 c18 k18 a19 i19 l19 c19 k19 a20 r20 n20 l20 c20 k20 a21 r21 n21 l21 c21 k21 a22 r22 n22 l22 c22 k22 a23 r23 l23 c23 k23 a24 l24 c24 k24 a25 l25 c25 k25 a26 l26 c26 k26 a27 l27 c27 k27 a28 l28 c28 k28 a29 l29 c29 k29 pg hd po sa mk kc nS nR nP rd rg ms ia ic it im sf nf z_len z_range z_all z_list z_tuple z_enumerate z_isinstance z_int z_bool z_str z_abs z_iter z_sorted z_ValueError z_super gM bM tM_ g0_ b0_ t0_ g1_ b1_ t1_ g2_ b2_ t2_ g3_ b3_ t3_ g4_ b4_ t4_ g5_ b5_ t5_ g6_ b6_ t6_ g7_ b7_ t7_ g8_ b8_ t8_ g9_ b9_ t9_ g10_ b10_ t10_ g11_ b11_ t11_ g12_ b12_ t12_ g13_ b13_ t13_ g14_ b14_ t14_ g15_ b15_ t15_ g16_ b16_ t16_ g17_ b17_ t17_ g18_ b18_ t18_ stn rfl lC0 rV0 sa0 ex0 kC0 se0 vE0 al0 iI0 tI0 lk0 cd0_ lc0 vs0 fl0 ce0 no0_0 xg0 xk0 xd0 xa0 xm0 sM0 s0_0 s0_1 s0_2 s0_3 s0_4 s0_5 s0_6 s0_7 s0_8 s0_9 s0_10 s0_11 s0_12 s0_13 s0_14 s0_15 s0_16 s0_17 s0_18 lC2 rV2 sa2 ex2 kC2 se2 vE2 al2 iI2 tI2 lk2 cd2_ lc2 vs2 fl2 ce2 no2_0 xg2 xk2 xd2 xa2 xm2 sM2 s2_0 s2_1 s2_2 s2_3 s2_4 s2_5 s2_6 s2_7 s2_8 s2_9 s2_10 s2_11 s2_12 s2_13 s2_14 s2_15 s2_16 s2_17 s2_18
end Toy
open PySem PySem.W PyProof.Rows in
set_option maxRecDepth 100000 in
set_option maxHeartbeats 0 in
theorem PySem.Challenge.cw_murmurline_k03_table_made_holds : PySem.Challenge.rw_murmurline_k03_table_made.Holds := by
  w_on; o_law
  refine HandSHeadRun.head_any (r := OpenLaw.row PySem.Challenge.rw_murmurline_k03_table_made) (q := view (OpenLaw.row PySem.Challenge.rw_murmurline_k03_table_made).prog [47]) (H := Toy.hdH) (ob := Toy.hdO) (M := 12000) (loose := Toy.hdN) (d := HandSHeadRun.topDef (OpenLaw.row PySem.Challenge.rw_murmurline_k03_table_made).prog 47) (kwd := []) Toy.hdO_eq
    (by kernel_rfl) (fun s => by kernel_rfl) Toy.hd_run (by kernel_rfl) (by kernel_rfl) (by kernel_rfl) (by rfl) (by first | assumption | decide +kernel) (by decide +kernel) ⟨rfl, rfl, rfl, rfl, rfl, by decide +kernel⟩ ?hw ?hc
  case hw => w_witness2
  case hc =>
    refine L2.walk_ofE (l := PySem.Challenge.rw_murmurline_k03_table_made) (n := 63) (k := 10) (x := "_law_script") (CX := L2.CX0) rfl (by decide) (by kernel_rfl) ⟨rfl, by decide, by decide⟩ ?F (fun _ _ _ _ z => z)
    intro w mg fa h Y G hmg0
    obtain ⟨K, KX, c⟩ := Y
    have hmg : mg ("law" : PySem.Str) = some (.ref fa) := by
      have e : (HandSHeadRun.topDef (OpenLaw.row PySem.Challenge.rw_murmurline_k03_table_made).prog 47).name = ("law" : PySem.Str) := by kernel_rfl
      rw [← e]
      exact hmg0
    obtain ⟨fd, hb, hF⟩ := Toy.hd_facts (w := w) KX G hmg c
    exact ⟨K, fd, Toy.spLaw K, KX, hb, fun H a ns hl _ hS => ⟨a, ns, rfl, hS, hl, fun _ => rfl⟩, hF⟩
