import PyProof.Rows.All
import Wide.All
import OpenK.AllK
import Wide.FinOn
import KE.KStateDown
import KE.KExcIs
import KE.KIsAll
import HandS.ForMost
import HandS.ForExc
import HandS.Head0
import HandS.Head1
import HandS.Head2
import HandS.HeadEnd
import HandS.HeadHook1
import HandS.HeadHook2
import HandS.Defaults
import HandS.Walk
import HandS.IsInst
import HandS.Conv
import HandS.Style
import HandS.Deep
import KE.KSortKey
import PyProof.CallStr
import PyProof.Rows.SortShellAny
import HandS.SortKw
import HandS.More
import HandS.ClsMeth
import HandS.SlotsOwn
import HandS.Property
import HandS.FStr
import HandS.Text
import HandS.TupAny
import HandS.Flow
import HandS.WordsDict
import HandS.TupLen
import HandS.Zip
import HandS.RaiseMore
import HandS.DictComp
import HandS.Iter
import HandS.Codes
import HandS.OwnIter
import KE.KCallOwn
import KE.KFmtOwn
import OpenK.KOps
import HandS.Star
import KE.GoesEnum
import KE.GoesMore
import KE.KExcSuper
import HandS.ExcInit
import HandS.ExcSuper
import HandS.Nested
import KE.KSuper
import KE.RegKSuper
import HandS.MakeKw
import HandS.ExcCtx
import KE.KStar
import OpenK.KMore
import KE.KOwnIter
import HandS.IterNext
import HandS.IterVal
import HandS.MakeKwOnly
import PyProof.InstNe
import PyProof.FactsAll.object_2
import HandS.Words
import HandS.ExcField
import HandS.Comp
import HandS.Hot
import HandS.HotCalls
import HandS.ExcIs
import KE.KOpsOwn
import KE.LtSeq
import PyProof.StrOps2
import HandS.DictEq
import PyProof.ReprRoads
import HandS.Ends
import PyProof.Rows.StrRev
import HandS.Dict
import KE.DataAny
import HandS.OwnEq
import PySem.Challenge.RW_murmurline_k77_whole_family_of_errors
set_option Elab.async false
set_option linter.all false
set_option maxRecDepth 100000
set_option maxHeartbeats 4000000
set_option exponentiation.threshold 2000
/-! the head's facts by one Bool over the objects that the top has made; defs may have defaults -/
namespace Hd
open PySem PySem.Spec PyProof.Rows L2
def frNat {α : Type} (n : Nat) (k : Nat → α) : α := match n with
  | 0 => k 0
  | m + 1 => k (m + 1)
def forceL {α : Type} : List Addr → (List Addr → α) → α
  | [], k => k []
  | a :: r, k => frNat a fun a => forceL r fun r => k (a :: r)
def forceK {α : Type} (g : Addr → Option Obj) : List Addr → (PySem.W.Frag → α) → α
  | [], k => k []
  | a :: r, k => match g a with
    | some ⟨c, d, dt, sl⟩ => forceK g r fun r => k ((a, ⟨c, d, dt, sl⟩) :: r)
    | none => forceK g r k
theorem forceK_eq {α : Type} {g : Addr → Option Obj} : ∀ (l : List Addr) (k : PySem.W.Frag → α), forceK g l k = k (He.frG g l)
  | [], k => rfl
  | a :: r, k => by
    unfold forceK He.frG
    rw [List.filterMap_cons]
    cases h : g a with
    | none => exact forceK_eq r k
    | some o => exact forceK_eq r _
def nsOf (g : Addr → Option Obj) (c : Addr) : Addr := match g c with
  | some ⟨_, _, .cls cd, _⟩ => cd.ns
  | _ => 0
def gaG (g : Addr → Option Obj) (x : Str) : Addr := He.ga (He.frG g [mainGlobals]) x
def inNs (g : Addr → Option Obj) (ns : Addr) (m : Str) : Addr := match PySem.W.nsIn (He.frG g [ns]) ns m with
  | some (some (.ref a)) => a
  | _ => 0
def refs1 (g : Addr → Option Obj) (a : Addr) : List Addr := match g a with
  | some o => He.refsD o
  | none => []
def refs2 (g : Addr → Option Obj) (a : Addr) : List Addr := match g a with
  | some ⟨c, d, .func fd, sl⟩ => He.refsD ⟨c, d, .func fd, sl⟩
  | _ => []
def reach (g : Addr → Option Obj) (cls globs : List Str) (ms : List (Str × List Str)) : List Addr :=
  forceL (cls.map (gaG g)) fun cs => forceL (cs.map (nsOf g)) fun ns => forceL (globs.map (gaG g)) fun gs =>
  forceL (ms.flatMap fun p => p.2.map (inNs g (nsOf g (gaG g p.1)))) fun fs => forceL ((gs ++ fs).flatMap (refs1 g)) fun f1 => forceL (f1.flatMap (refs2 g)) fun f2 =>
  [mainGlobals, cStatics] ++ cs ++ ns ++ gs ++ fs ++ f1 ++ f2
/-- a def: where it stands; sup: it has the cell of its class; dvs: its defaults -/
structure FnX where
  adr : PySem.W.Frag → Addr
  name : Str
  qual : Str
  params : Arguments
  body : List Stmt
  scope : Scope
  sup : Bool
  dvs : List V
abbrev FnO : Type := Option (Str × Str × Arguments × FuncBody × Scope × Addr × Addr)
def obsAt (K : PySem.W.Frag) (a : Addr) : FnO := match K.lookup a with
  | some ⟨_, _, .func fd, _⟩ => some (fd.name, fd.qualname, fd.params, fd.body, fd.scope, fd.globals, fd.builtins)
  | _ => none
def FnX.val (d : FnX) : FnO := some (d.name, d.qual, d.params, .stmts d.body, d.scope, mainGlobals, builtinsNs)
def cellOf (K : PySem.W.Frag) (a : Addr) : Addr := match K.lookup a with
  | some ⟨_, _, .func fd, _⟩ => (match fd.closure with
    | [(_, c)] => c
    | _ => 0)
  | _ => 0
def codeOf (K : PySem.W.Frag) (a : Addr) : Addr := match K.lookup a with
  | some ⟨_, _, .func fd, _⟩ => (match fd.code with
    | .ref c => c
    | _ => 0)
  | _ => 0
def dflB (K : PySem.W.Frag) (dV : Value) (dvs : List V) : Bool := match dV, dvs with
  | .none, [] => true
  | .ref T, v :: vs => (match K.lookup T with
    | some ⟨_, _, .seq its _, _⟩ => He.relAll (v :: vs) its.toList
    | _ => false)
  | _, _ => false
theorem dflB_ok {K : PySem.W.Frag} {dV : Value} {dvs : List V} (h : dflB K dV dvs = true) : DflV K dV dvs := by
  unfold dflB at h
  split at h
  · exact .inl ⟨rfl, rfl⟩
  · rename_i T v vs
    split at h
    · rename_i oc od its n osl e
      exact .inr ⟨(fun z => nomatch z), T, _, its.toList, n, rfl, e, (show Data.seq its n = Data.seq its.toList.toArray n by rw [Array.toArray_toList]), He.relAll_ok h⟩
    · cases h
  · cases h
def okAt (K : PySem.W.Frag) (a : Addr) (q : Str) (sup : Bool) (dvs : List V) : Bool := match K.lookup a with
  | some ⟨_, _, .func fd, _⟩ => PySem.W.codeIn K fd.code q && ((match sup, fd.closure with
    | false, [] => true
    | true, [(x, _)] => decide (x = "__class__")
    | _, _ => false) && dflB K fd.defaults dvs)
  | _ => false
theorem fnx_dflt {K : PySem.W.Frag} {a : Addr} {n q : Str} {ps : Arguments} {b : List Stmt} {sc : Scope} {dvs : List V} (e : obsAt K a = some (n, q, ps, .stmts b, sc, mainGlobals, builtinsNs)) (c : okAt K a q false dvs = true) :
    ∃ oc od osl dV kV doc pm an cdv ct, K.lookup a = some ⟨oc, od, .func (PySem.W.fnOf n q ps b sc dV kV doc pm an cdv ct), osl⟩ ∧ PySem.W.codeIn K cdv q = true ∧ DflV K dV dvs := by
  unfold obsAt at e
  unfold okAt at c
  cases lk : K.lookup a with
  | none =>
    rw [lk] at e
    cases e
  | some o =>
    obtain ⟨oc, od, dt, osl⟩ := o
    rw [lk] at c e
    cases dt with
    | func fd =>
      obtain ⟨n1, n2, n3, n4, n5, n6, n7, n8, n9, n10, n11, n12, n13, n14, n15⟩ := fd
      have e2 : (some (n1, n2, n3, n4, n5, n6, n15) : FnO) = some (n, q, ps, .stmts b, sc, mainGlobals, builtinsNs) := e
      simp only [Option.some.injEq, Prod.mk.injEq] at e2
      obtain ⟨h1, h2, h3, h4, h5, h6, h7⟩ := e2
      subst h1 h2 h3 h4 h5 h6 h7
      obtain ⟨c1, c2⟩ := He.ba c
      obtain ⟨c2, c3⟩ := He.ba c2
      cases n7 with
      | nil => exact ⟨oc, od, osl, n8, n9, n10, n11, n12, n13, n14, rfl, c1, dflB_ok c3⟩
      | cons x r => cases c2
    | _ => cases c
theorem fnx_sup {K : PySem.W.Frag} {a : Addr} {n q : Str} {ps : Arguments} {b : List Stmt} {sc : Scope} (e : obsAt K a = some (n, q, ps, .stmts b, sc, mainGlobals, builtinsNs)) (c : okAt K a q true [] = true) :
    ∃ oc od osl kV doc pm an ct, K.lookup a = some ⟨oc, od, .func (PySem.W.ksFn n q ps b sc .none kV doc pm an (.ref (codeOf K a)) ct (cellOf K a)), osl⟩ ∧ PySem.W.codeIn K (.ref (codeOf K a)) q = true := by
  unfold obsAt at e
  unfold okAt at c
  cases lk : K.lookup a with
  | none =>
    rw [lk] at e
    cases e
  | some o =>
    obtain ⟨oc, od, dt, osl⟩ := o
    rw [lk] at c e
    cases dt with
    | func fd =>
      obtain ⟨n1, n2, n3, n4, n5, n6, n7, n8, n9, n10, n11, n12, n13, n14, n15⟩ := fd
      have e2 : (some (n1, n2, n3, n4, n5, n6, n15) : FnO) = some (n, q, ps, .stmts b, sc, mainGlobals, builtinsNs) := e
      simp only [Option.some.injEq, Prod.mk.injEq] at e2
      obtain ⟨h1, h2, h3, h4, h5, h6, h7⟩ := e2
      subst h1 h2 h3 h4 h5 h6 h7
      obtain ⟨c1, c2⟩ := He.ba c
      obtain ⟨c2, c3⟩ := He.ba c2
      have k0 : n8 = .none := by
        rcases dflB_ok c3 with ⟨_, z⟩ | ⟨z, _⟩
        · exact z
        · exact absurd rfl z
      subst k0
      have k1 : ∀ x, n13 = .ref x → codeOf K a = x := fun x hx => by
        unfold codeOf
        rw [lk]
        subst hx
        rfl
      cases n13 with
      | ref cd =>
        rw [k1 cd rfl]
        match n7, c2, lk with
        | [(x, cc)], c2, lk =>
          have ex : x = "__class__" := of_decide_eq_true c2
          subst ex
          have k2 : cellOf K a = cc := by
            unfold cellOf
            rw [lk]
          rw [k2]
          exact ⟨oc, od, osl, n9, n10, n11, n12, n14, rfl, c1⟩
      | _ => cases c1
    | _ => cases c
/-! ### other things that a top has written -/
/-- the code object of a def knows the file -/
def fileB (K : PySem.W.Frag) (c : Addr) (file : Str) : Bool := match K.lookup c with
  | some ⟨_, _, .fields vs, _⟩ => (match (vs[2]? : Option Value) with
    | some (Value.str z _) => file == z
    | _ => false)
  | _ => false
theorem file_ok {K : PySem.W.Frag} {c : Addr} {file : Str} (h : fileB K c file = true) : ∃ ek ew ev er ef eg, K.lookup c = some ⟨ek, ew, .fields ev, er⟩ ∧ ev[2]? = some (.str ef eg) ∧ (file == ef) = true := by
  unfold fileB at h
  split at h
  · rename_i ek ew ev er e
    split at h
    · rename_i z t e2
      exact ⟨ek, ew, ev, er, z, t, e, e2, h⟩
    · cases h
  · cases h
def cellB (K : PySem.W.Frag) (c C : Addr) : Bool := match K.lookup c with
  | some ⟨_, _, .cell (some (.ref D)), _⟩ => decide (D = C)
  | _ => false
theorem cell_ok {K : PySem.W.Frag} {c C : Addr} (h : cellB K c C = true) : ∃ el eu eq, K.lookup c = some ⟨el, eu, .cell (some (.ref C)), eq⟩ := by
  unfold cellB at h
  split at h
  · rename_i el eu D eq e
    exact ⟨el, eu, eq, by rw [e, of_decide_eq_true h]⟩
  · cases h
/-! ### the Hook -/
abbrev AlB : Type := Bool × List FnO
def obsB (B : PySem.W.Frag → Bool) (fn : List FnX) (K : PySem.W.Frag) : AlB := (B K && fn.all fun d => okAt K (d.adr K) d.qual d.sup d.dvs, fn.map fun d => obsAt K (d.adr K))
def valB (fn : List FnX) : AlB := (true, fn.map FnX.val)
def SaysB (B : PySem.W.Frag → Bool) (fn : List FnX) (K : PySem.W.Frag) : Prop := obsB B fn K = valB fn
def obsBG (as : (Addr → Option Obj) → List Addr) (B : PySem.W.Frag → Bool) (fn : List FnX) (g : Addr → Option Obj) : AlB := forceK g (as g) fun K => obsB B fn K
def hookB (as : (Addr → Option Obj) → List Addr) (B : PySem.W.Frag → Bool) (fn : List FnX) : PySem.W.Hook where
  α := AlB
  obs := fun s => obsBG as B fn s.heap.get?
  val := fun _ => valB fn
  says := fun _ h => ∃ K : PySem.W.Frag, K.In h ∧ SaysB B fn K
  of := fun _ _ e => ⟨_, He.frG_in, by rw [obsBG, forceK_eq] at e; exact e⟩
  keeps := fun _ _ _ ⟨K, hK, c⟩ k => ⟨K, PySem.W.Frag.In.keeps hK k, c⟩
theorem obsBG_eq {as : (Addr → Option Obj) → List Addr} {B : PySem.W.Frag → Bool} {fn : List FnX} {g : Addr → Option Obj} {s : Shared} (h : ∀ a, g a = s.heap.get? a) : obsBG as B fn g = (hookB as B fn).obs s := by
  have e : g = s.heap.get? := funext h
  rw [e] <;> rfl
section
variable {B : PySem.W.Frag → Bool} {fn : List FnX} {K : PySem.W.Frag}
theorem SaysB.bool (c : SaysB B fn K) : B K = true := (He.ba (show (B K && fn.all fun d => okAt K (d.adr K) d.qual d.sup d.dvs) = true from congrArg (fun z : AlB => z.1) c)).1
theorem SaysB.def_ (c : SaysB B fn K) (i : Nat) {d : FnX} (h : fn[i]? = some d := by rfl) : obsAt K (d.adr K) = some (d.name, d.qual, d.params, .stmts d.body, d.scope, mainGlobals, builtinsNs) ∧ okAt K (d.adr K) d.qual d.sup d.dvs = true := by
  have c2 := (He.ba (show (B K && fn.all fun d => okAt K (d.adr K) d.qual d.sup d.dvs) = true from congrArg (fun z : AlB => z.1) c)).2
  have e : fn.map (fun d => obsAt K (d.adr K)) = fn.map FnX.val := congrArg (fun z : AlB => z.2) c
  have e2 : (fn.map fun d => obsAt K (d.adr K))[i]? = (fn.map FnX.val)[i]? := by rw [e]
  rw [List.getElem?_map, List.getElem?_map, h] at e2
  exact ⟨Option.some.inj e2, List.all_eq_true.mp c2 d (List.mem_of_getElem? h)⟩
end
def ecB (K : PySem.W.Frag) (C : Addr) : Bool := match K.lookup C with
  | some ⟨c, _, .cls ⟨_, _, .ref C' :: bm, _, _, hd, _, _, _, _, del⟩, ⟨[_, _, _, _, some nw, _]⟩⟩ => decide (c = .type "type") && (decide (C' = C) && (PySem.HandSPX.refsVE bm && (hd && (!del && decide (nw = .builtin "ValueError.__new__")))))
  | _ => false
end Hd
namespace Hd
theorem map3 {σ α β γ δ : Type} {o : Option σ} {f : σ → α} {g : σ → β} {h : σ → γ × δ} {a : α} {b : β} {c : γ} {d : δ} (e1 : o.map (fun s => (f s, g s)) = some (a, b)) (e2 : o.map (fun s => (h s).1) = some c) (e3 : o.map (fun s => (h s).2) = some d) :
    o.map (fun s => (f s, g s, h s)) = some (a, b, (c, d)) := by
  cases o with
  | none => cases e1
  | some s =>
    have e1 := Option.some.inj e1
    have e2 := Option.some.inj e2
    have e3 := Option.some.inj e3
    have e4 := congrArg Prod.fst e1
    have e5 := congrArg Prod.snd e1
    show some (f s, g s, h s) = _
    rw [show f s = a from e4, show g s = b from e5, ← e2, ← e3]
end Hd
namespace Dl
open PySem PySem.Spec L2

/-! ## data as trees -/
inductive A where
  | non | bl (b : Bool) | int (i : Int) | str (s : Str)
  | lst (xs : List A) | tup (xs : List A)
  | dK (ks : List Key) (xs : List A) | dT (ks : List (List Key)) (xs : List A)
  | ins (c : Nat) (ns : List Str) (xs : List A)
  | kls (c : Nat)
  deriving Inhabited
/-- a flat thing that one name owns, or a tree that never changes -/
inductive Fl where
  | fz (a : A) | lst (xs : List A) | dK (ks : List Key) (xs : List A) | dT (ks : List (List Key)) (xs : List A)
  deriving Inhabited
inductive O where
  | un | fl (f : Fl) | ins (c : Nat) (ns : List Str) (fs : List Fl)
  deriving Inhabited
abbrev Env := List O
abbrev A.sc : A → Option V
  | .non => some .non | .bl b => some (.bl b) | .int i => some (.int i) | .str s => some (.str s) | _ => none
def Fl.frz : Fl → A
  | .fz a => a | .lst xs => .lst xs | .dK ks xs => .dK ks xs | .dT ks xs => .dT ks xs
def O.vw : O → Option A
  | .un => none | .fl f => some f.frz | .ins c ns fs => some (.ins c ns (fs.map Fl.frz))

/-! ## how a tree stands in a heap -/
section
variable (cl : Nat → Addr)
mutual
def Rp (F : Hp) : A → V → Prop
  | .non, v => v = .non
  | .bl b, v => v = .bl b
  | .int i, v => v = .int i
  | .str s, v => v = .str s
  | .lst xs, v => ∃ p vs, v = .ref p ∧ F p = some (.lst vs) ∧ RpL F xs vs
  | .tup xs, v => ∃ p vs, v = .ref p ∧ F p = some (.tup vs) ∧ RpL F xs vs
  | .dK ks xs, v => ∃ p vs, v = .ref p ∧ Rd F p (.dK (ks.zip vs)) ∧ ks.length = xs.length ∧ RpL F xs vs
  | .dT ks xs, v => ∃ p vs, v = .ref p ∧ Rd F p (.dT (ks.zip vs)) ∧ ks.length = xs.length ∧ RpL F xs vs
  | .ins c ns xs, v => ∃ p dx vs, v = .ref p ∧ F p = some (.ins (cl c) dx (ns.zip vs)) ∧ F dx = some (.own p) ∧ ns.length = xs.length ∧ RpL F xs vs
  | .kls c, v => v = .ref (cl c)
def RpL (F : Hp) : List A → List V → Prop
  | [], vs => vs = []
  | x :: xs, vs => ∃ v r, vs = v :: r ∧ Rp F x v ∧ RpL F xs r
end
end
section
variable {cl : Nat → Addr} {F F' H H' : Hp}
theorem Rd.same {p : Addr} {u : HO} (s : Same F F') (h : Rd F p u) : Rd F' p u := h.elim (fun e => .inl (s _ _ e)) fun ⟨o, e⟩ => .inr ⟨o, s _ _ e⟩
mutual
theorem Rp.same (s : Same F F') : ∀ {a : A} {v : V}, Rp cl F a v → Rp cl F' a v
  | .non, _, h => h
  | .bl _, _, h => h
  | .int _, _, h => h
  | .str _, _, h => h
  | .lst _, _, h => let ⟨p, vs, e, q, r⟩ := h; ⟨p, vs, e, s _ _ q, RpL.same s r⟩
  | .tup _, _, h => let ⟨p, vs, e, q, r⟩ := h; ⟨p, vs, e, s _ _ q, RpL.same s r⟩
  | .dK _ _, _, h => let ⟨p, vs, e, q, z, r⟩ := h; ⟨p, vs, e, Rd.same s q, z, RpL.same s r⟩
  | .dT _ _, _, h => let ⟨p, vs, e, q, z, r⟩ := h; ⟨p, vs, e, Rd.same s q, z, RpL.same s r⟩
  | .ins _ _ _, _, h => let ⟨p, dx, vs, e, q, d, z, r⟩ := h; ⟨p, dx, vs, e, s _ _ q, s _ _ d, z, RpL.same s r⟩
  | .kls _, _, h => h
theorem RpL.same (s : Same F F') : ∀ {xs : List A} {vs : List V}, RpL cl F xs vs → RpL cl F' xs vs
  | [], _, h => h
  | _ :: _, _, h => let ⟨v, r, e, q, z⟩ := h; ⟨v, r, e, Rp.same s q, RpL.same s z⟩
end
theorem RpL.length : ∀ {xs : List A} {vs : List V}, RpL cl F xs vs → vs.length = xs.length
  | [], _, h => by cases h; rfl
  | _ :: _, _, h => by obtain ⟨v, r, rfl, _, z⟩ := h; simp [RpL.length z]
theorem RpL.at : ∀ {xs : List A} {vs : List V} {i : Nat} {a : A}, RpL cl F xs vs → xs[i]? = some a → ∃ v, vs[i]? = some v ∧ Rp cl F a v
  | [], _, _, _, _, e => by simp at e
  | _ :: _, _, 0, _, h, e => by obtain ⟨v, r, rfl, q, z⟩ := h; simp at e; subst e; exact ⟨v, rfl, q⟩
  | _ :: _, _, i + 1, _, h, e => by
    obtain ⟨v, r, rfl, q, z⟩ := h
    obtain ⟨u, hu, hq⟩ := RpL.at z (by simpa using e)
    exact ⟨u, by simpa using hu, hq⟩
theorem RpL.at' : ∀ {xs : List A} {vs : List V} {i : Nat} {v : V}, RpL cl F xs vs → vs[i]? = some v → ∃ a, xs[i]? = some a ∧ Rp cl F a v
  | [], _, _, _, h, e => by cases h; simp at e
  | _ :: _, _, 0, _, h, e => by obtain ⟨v, r, rfl, q, z⟩ := h; simp at e; subst e; exact ⟨_, rfl, q⟩
  | _ :: _, _, i + 1, _, h, e => by
    obtain ⟨v, r, rfl, q, z⟩ := h
    obtain ⟨u, hu, hq⟩ := RpL.at' z (by simpa using e)
    exact ⟨u, by simpa using hu, hq⟩
theorem RpL.app : ∀ {xs ys : List A} {vs us : List V}, RpL cl F xs vs → RpL cl F ys us → RpL cl F (xs ++ ys) (vs ++ us)
  | [], _, _, _, h, g => by cases h; exact g
  | _ :: _, _, _, _, h, g => by obtain ⟨v, r, rfl, q, z⟩ := h; exact ⟨v, _, rfl, q, RpL.app z g⟩
theorem RpL.one {a : A} {v : V} (h : Rp cl F a v) : RpL cl F [a] [v] := ⟨v, [], rfl, h, rfl⟩
theorem RpL.take : ∀ {xs : List A} {vs : List V} (n : Nat), RpL cl F xs vs → RpL cl F (xs.take n) (vs.take n)
  | _, _, 0, _ => by simp [RpL]
  | [], _, _ + 1, h => by cases h; exact rfl
  | _ :: _, _, n + 1, h => by obtain ⟨v, r, rfl, q, z⟩ := h; exact ⟨v, _, rfl, q, RpL.take n z⟩
theorem RpL.drop : ∀ {xs : List A} {vs : List V} (n : Nat), RpL cl F xs vs → RpL cl F (xs.drop n) (vs.drop n)
  | _, _, 0, h => h
  | [], _, _ + 1, h => by cases h; exact rfl
  | _ :: _, _, n + 1, h => by obtain ⟨v, r, rfl, q, z⟩ := h; exact RpL.drop n z
theorem RpL.set {a : A} {v : V} (q : Rp cl F a v) : ∀ {xs : List A} {vs : List V} (i : Nat), RpL cl F xs vs → RpL cl F (xs.set i a) (vs.set i v)
  | [], _, _, h => by cases h; exact rfl
  | _ :: _, _, 0, h => by obtain ⟨v, r, rfl, _, z⟩ := h; exact ⟨_, _, rfl, q, z⟩
  | _ :: _, _, i + 1, h => by obtain ⟨v, r, rfl, q', z⟩ := h; exact ⟨v, _, rfl, q', RpL.set q i z⟩
theorem Rp.sc {a : A} {v : V} (e : a.sc = some v) {u : V} (h : Rp cl F a u) : u = v := by
  cases a <;> simp [A.sc] at e <;> subst e <;> exact h
theorem Rp.of_sc {a : A} {v : V} (e : a.sc = some v) : Rp cl F a v := by
  cases a <;> simp [A.sc] at e <;> subst e <;> exact rfl
end

/-! ## how owned things stand -/
section
variable (cl : Nat → Addr)
def FlR (F H : Hp) (S : Addr → Prop) : Fl → V → Prop
  | .fz a, v => Rp cl F a v
  | .lst xs, v => ∃ p vs, v = .ref p ∧ S p ∧ H p = some (.lst vs) ∧ RpL cl F xs vs
  | .dK ks xs, v => ∃ p vs, v = .ref p ∧ S p ∧ H p = some (.dK (ks.zip vs)) ∧ ks.length = xs.length ∧ RpL cl F xs vs
  | .dT ks xs, v => ∃ p vs, v = .ref p ∧ S p ∧ H p = some (.dT (ks.zip vs)) ∧ ks.length = xs.length ∧ RpL cl F xs vs
def OR (F H : Hp) (S : Addr → Prop) : O → V → Prop
  | .un, _ => True
  | .fl f, v => FlR cl F H S f v
  | .ins c ns fs, v => ∃ (p dx : Addr) (vs : List V) (T : Nat → Addr → Prop), v = .ref p ∧ S p ∧ S dx ∧ H p = some (.ins (cl c) dx (ns.zip vs)) ∧ H dx = some (.own p) ∧ ns.length = fs.length ∧ vs.length = fs.length ∧
      (∀ j f u, fs[j]? = some f → vs[j]? = some u → FlR cl F H (T j) f u) ∧ (∀ j q, T j q → S q ∧ q ≠ p ∧ q ≠ dx) ∧ ∀ j k q, T j q → T k q → j = k
end
section
variable {cl : Nat → Addr} {F F' H H' : Hp} {S S' : Addr → Prop}
theorem FlR.go (sF : Same F F') (k : ∀ p o, S p → H p = some o → H' p = some o) : ∀ {f : Fl} {v : V}, FlR cl F H S f v → FlR cl F' H' S f v
  | .fz _, _, h => Rp.same sF h
  | .lst _, _, h => let ⟨p, vs, e, s, q, r⟩ := h; ⟨p, vs, e, s, k _ _ s q, RpL.same sF r⟩
  | .dK _ _, _, h => let ⟨p, vs, e, s, q, z, r⟩ := h; ⟨p, vs, e, s, k _ _ s q, z, RpL.same sF r⟩
  | .dT _ _, _, h => let ⟨p, vs, e, s, q, z, r⟩ := h; ⟨p, vs, e, s, k _ _ s q, z, RpL.same sF r⟩
theorem FlR.sub (k : ∀ p, S p → S' p) : ∀ {f : Fl} {v : V}, FlR cl F H S f v → FlR cl F H S' f v
  | .fz _, _, h => h
  | .lst _, _, h => let ⟨p, vs, e, s, q, r⟩ := h; ⟨p, vs, e, k _ s, q, r⟩
  | .dK _ _, _, h => let ⟨p, vs, e, s, q, z, r⟩ := h; ⟨p, vs, e, k _ s, q, z, r⟩
  | .dT _ _, _, h => let ⟨p, vs, e, s, q, z, r⟩ := h; ⟨p, vs, e, k _ s, q, z, r⟩
theorem OR.go (sF : Same F F') (k : ∀ p o, S p → H p = some o → H' p = some o) : ∀ {o : O} {v : V}, OR cl F H S o v → OR cl F' H' S o v
  | .un, _, _ => trivial
  | .fl _, _, h => FlR.go sF k h
  | .ins _ _ _, _, h =>
    let ⟨p, dx, vs, T, e, s, sd, q, d, z, z', r, a, b⟩ := h
    ⟨p, dx, vs, T, e, s, sd, k _ _ s q, k _ _ sd d, z, z', fun j f u hf hu => FlR.go sF (fun _ _ t => k _ _ (a j _ t).1) (r j f u hf hu), a, b⟩
theorem OR.sub (k : ∀ p, S p → S' p) : ∀ {o : O} {v : V}, OR cl F H S o v → OR cl F H S' o v
  | .un, _, _ => trivial
  | .fl _, _, h => FlR.sub k h
  | .ins _ _ _, _, h =>
    let ⟨p, dx, vs, T, e, s, sd, q, d, z, z', r, a, b⟩ := h
    ⟨p, dx, vs, T, e, k _ s, k _ sd, q, d, z, z', r, fun j q t => ⟨k _ (a j q t).1, (a j q t).2⟩, b⟩

/-! ## the state of a def -/
def OS (cl : Nat → Addr) (F H : Hp) (S : Addr → Prop) (o : O) (s : Option (Option V)) : Prop := o = .un ∨ ∃ v, s = some (some v) ∧ OR cl F H S o v
def HOtup : HO → Bool
  | .tup _ => true
  | _ => false
/-- a cell that is no tuple -/
def Nt (H : Hp) (p : Addr) : Prop := ∃ o, H p = some o ∧ HOtup o = false
theorem Nt.ne {H : Hp} {p : Addr} (h : Nt H p) : H p ≠ none := fun e => by
  obtain ⟨o, a, _⟩ := h
  rw [e] at a; cases a
theorem Nt.new {H : Hp} {p : Addr} {o : HO} (h : HOtup o = false) : Nt (upd H p o) p := ⟨o, upd_same, h⟩
theorem Nt.keep {H H' : Hp} {p : Addr} (h : Nt H p) (e : H' p = H p) : Nt H' p := by
  obtain ⟨o, a, b⟩ := h
  exact ⟨o, e.trans a, b⟩
theorem Nt.no {H : Hp} {p : Addr} {vs : List V} (h : Nt H p) (e : H p = some (.tup vs)) : False := by
  obtain ⟨o, a, b⟩ := h
  rw [e] at a
  cases a
  cases b
structure Rs (cl : Nat → Addr) (kp : List Nat) (τ : St) (F H : Hp) (fp : Nat → Addr → Prop) (env : Env) (σ : St) : Prop where
  len : env.length = σ.length
  slot : ∀ i o, env[i]? = some o → OS cl F H (fp i) o σ[i]?
  dis : ∀ i j p, fp i p → fp j p → i = j
  sep : ∀ i p, fp i p → F p = none
  dom : ∀ i p, fp i p → Nt H p
  le : Same F H
  pro : ∀ i ∈ kp, σ[i]? = τ[i]?
  tl : σ.length = τ.length
abbrev U (fp : Nat → Addr → Prop) : Addr → Prop := fun p => ∃ i, fp i p
structure Go (F H : Hp) (U : Addr → Prop) (F' H' : Hp) (U' : Addr → Prop) : Prop where
  sF : Same F F'
  keep : ∀ p o, ¬ U p → H p = some o → H' p = some o
  new : ∀ p, F' p ≠ none → F p = none → H p = none ∨ U p ∨ ∃ vs, H p = some (.tup vs)
  fpn : ∀ p, U' p → U p ∨ H p = none
  dom : ∀ p, H p ≠ none → H' p ≠ none
  ntd : ∀ p, Nt H p → Nt H' p
theorem Go.refl {U : Addr → Prop} : Go F H U F H U := ⟨Same.refl F, fun _ _ _ h => h, fun _ h e => (h e).elim, fun _ h => .inl h, fun _ h => h, fun _ h => h⟩
theorem Go.trans {F1 H1 F2 H2 : Hp} {U U1 U2 : Addr → Prop} (a : Go F H U F1 H1 U1) (b : Go F1 H1 U1 F2 H2 U2) : Go F H U F2 H2 U2 := by
  have key : ∀ p, U1 p → ¬ U p → H p = none := fun p h n => (a.fpn p h).elim (fun z => (n z).elim) id
  have back : ∀ p, H1 p = none → H p = none := fun p z => by
    cases hp : H p with
    | none => rfl
    | some o => exact absurd z (a.dom p (by rw [hp]; exact fun q => nomatch q))
  refine ⟨a.sF.trans b.sF, fun p o n e => b.keep p o (fun z => ?_) (a.keep p o n e), fun p h e => ?_, fun p h => ?_, fun p h => b.dom p (a.dom p h), fun p h => b.ntd p (a.ntd p h)⟩
  · rw [key p z n] at e; cases e
  · by_cases f1 : F1 p = none
    · rcases b.new p h f1 with z | z | ⟨vs, z⟩
      · exact .inl (back p z)
      · exact (a.fpn p z).elim (fun z => .inr (.inl z)) .inl
      · by_cases u : U p
        · exact .inr (.inl u)
        · cases hp : H p with
          | none => exact .inl rfl
          | some o =>
            have := a.keep p o u hp
            rw [z] at this
            cases this
            exact .inr (.inr ⟨vs, rfl⟩)
    · exact a.new p f1 e
  · rcases b.fpn p h with z | z
    · exact a.fpn p z
    · exact .inr (back p z)
theorem Go.mono {U U' V' : Addr → Prop} (a : Go F H U F' H' U') (h : ∀ p, V' p → U' p) : Go F H U F' H' V' := ⟨a.sF, a.keep, a.new, fun p z => a.fpn p (h p z), a.dom, a.ntd⟩
theorem Go.wide {U U' V' : Addr → Prop} (a : Go F H U F' H' U') (h : ∀ p, U p → V' p) : Go F H V' F' H' U' := ⟨a.sF, fun p o n => a.keep p o fun z => n (h p z), fun p q e => (a.new p q e).imp id (Or.imp (h p) id), fun p z => (a.fpn p z).imp (h p) id, a.dom, a.ntd⟩
end
end Dl
namespace Dl
open PySem PySem.Spec L2

/-! ## values of expressions -/
inductive R where
  | fz (a : A) | pl (i : Nat) | pf (i : Nat) (f : Str) | ow (o : O)
  deriving Inhabited
def fld (ns : List Str) (fs : List Fl) (f : Str) : Option Fl := (ns.zip fs).lookup f
def O.fvw (f : Str) : O → Option A
  | .ins _ ns fs => (fld ns fs f).map Fl.frz
  | _ => none
def R.vw (env : Env) : R → Option A
  | .fz a => some a
  | .pl i => env[i]?.bind O.vw
  | .pf i f => env[i]?.bind (O.fvw f)
  | .ow o => o.vw
def R.tmp : R → R
  | .ow o => match o.vw with
    | some a => .fz a
    | none => .ow o
  | r => r
abbrev G := Env → Option (R × Env)
section
variable (cl : Nat → Addr)
/-- the root in H, what it holds in F -/
def Rv (F H : Hp) : A → V → Prop
  | .lst xs, v => ∃ p vs, v = .ref p ∧ H p = some (.lst vs) ∧ RpL cl F xs vs
  | .tup xs, v => ∃ p vs, v = .ref p ∧ F p = some (.tup vs) ∧ RpL cl F xs vs
  | .dK ks xs, v => ∃ p vs, v = .ref p ∧ Rd H p (.dK (ks.zip vs)) ∧ ks.length = xs.length ∧ RpL cl F xs vs
  | .dT ks xs, v => ∃ p vs, v = .ref p ∧ Rd H p (.dT (ks.zip vs)) ∧ ks.length = xs.length ∧ RpL cl F xs vs
  | a, v => Rp cl H a v
def RR (F H : Hp) (fp : Nat → Addr → Prop) (σ : L2.St) : R → V → (Addr → Prop) → Prop
  | .fz a, v, _ => Rp cl F a v
  | .pl i, v, _ => σ[i]? = some (some v)
  | .pf i f, v, _ => ∃ p c dx vs, σ[i]? = some (some (.ref p)) ∧ H p = some (.ins c dx vs) ∧ vs.lookup f = some v
  | .ow o, v, S => OR cl F H S o v ∧ ∀ p, S p → F p = none ∧ Nt H p ∧ ¬ U fp p
def SE (kp : List Nat) (pu : Bool) (t : TE) (g : G) : Prop :=
  ∀ ⦃τ : L2.St⦄ ⦃F H : Hp⦄ ⦃fp : Nat → Addr → Prop⦄ ⦃env : Env⦄ ⦃σ : L2.St⦄ ⦃Q : VK⦄ ⦃r : R⦄ ⦃env' : Env⦄, Rs cl kp τ F H fp env σ → g env = some (r, env') →
    (∀ F' H' fp' S v, Rs cl kp τ F' H' fp' env' σ → Go F H (U fp) F' H' (fun p => U fp' p ∨ S p) → RR cl F' H' fp' σ r v S → (pu = true → env' = env ∧ fp' = fp ∧ Same H H') → Q v H') → t σ H Q
end
section
variable {cl : Nat → Addr} {kp : List Nat} {τ σ : L2.St} {F F' H H' : Hp} {fp : Nat → Addr → Prop} {env : Env} {S : Addr → Prop}
theorem Rp.rv (s : Same F H) {a : A} {v : V} (h : Rp cl F a v) : Rv cl F H a v := by
  cases a with
  | lst xs => obtain ⟨p, vs, e, q, r⟩ := h; exact ⟨p, vs, e, s _ _ q, r⟩
  | tup xs => exact h
  | dK ks xs => obtain ⟨p, vs, e, q, z, r⟩ := h; exact ⟨p, vs, e, Rd.same s q, z, r⟩
  | dT ks xs => obtain ⟨p, vs, e, q, z, r⟩ := h; exact ⟨p, vs, e, Rd.same s q, z, r⟩
  | ins c ns xs => exact Rp.same s h
  | _ => exact h
theorem Rv.rp (s : Same F H) {a : A} {v : V} (h : Rv cl F H a v) : Rp cl H a v := by
  cases a with
  | lst xs => obtain ⟨p, vs, e, q, r⟩ := h; exact ⟨p, vs, e, q, RpL.same s r⟩
  | tup xs => obtain ⟨p, vs, e, q, r⟩ := h; exact ⟨p, vs, e, s _ _ q, RpL.same s r⟩
  | dK ks xs => obtain ⟨p, vs, e, q, z, r⟩ := h; exact ⟨p, vs, e, q, z, RpL.same s r⟩
  | dT ks xs => obtain ⟨p, vs, e, q, z, r⟩ := h; exact ⟨p, vs, e, q, z, RpL.same s r⟩
  | _ => exact h
theorem FlR.rv (s : Same F H) {f : Fl} {v : V} (h : FlR cl F H S f v) : Rv cl F H f.frz v := by
  cases f with
  | fz a => exact Rp.rv s h
  | lst xs => obtain ⟨p, vs, e, _, q, r⟩ := h; exact ⟨p, vs, e, q, r⟩
  | dK ks xs => obtain ⟨p, vs, e, _, q, z, r⟩ := h; exact ⟨p, vs, e, .inl q, z, r⟩
  | dT ks xs => obtain ⟨p, vs, e, _, q, z, r⟩ := h; exact ⟨p, vs, e, .inl q, z, r⟩
theorem RpL.of_at : ∀ {xs : List A} {vs : List V}, vs.length = xs.length → (∀ (j : Nat) (a : A) (u : V), xs[j]? = some a → vs[j]? = some u → Rp cl F a u) → RpL cl F xs vs
  | [], [], _, _ => rfl
  | a :: xs, v :: vs, e, h => ⟨v, vs, rfl, h 0 a v rfl rfl, RpL.of_at (by simpa using e) fun j b u hb hu => h (j + 1) b u (by simpa using hb) (by simpa using hu)⟩
theorem OR.rv (s : Same F H) {o : O} {v : V} {a : A} (h : OR cl F H S o v) (e : o.vw = some a) : Rv cl F H a v := by
  cases o with
  | un => cases e
  | fl f => cases e; exact FlR.rv s h
  | ins c ns fs =>
    cases e
    obtain ⟨p, dx, vs, T, e, _, _, q, d, z, z', r, _, _⟩ := h
    refine ⟨p, dx, vs, e, q, d, by simpa using z, RpL.of_at (by simpa using z') fun j b u hb hu => ?_⟩
    rw [List.getElem?_map, Option.map_eq_some_iff] at hb
    obtain ⟨f, hf, rfl⟩ := hb
    exact Rv.rp s (FlR.rv s (r j f u hf hu))
theorem zip_lookup {f : Str} {β : Type} : ∀ {ns : List Str} {vs : List V} {fs : List β} {v : V} {x : β}, (ns.zip vs).lookup f = some v → (ns.zip fs).lookup f = some x → ∃ j : Nat, vs[j]? = some v ∧ fs[j]? = some x
  | [], _, _, _, _, h, _ => by simp at h
  | _ :: _, [], _, _, _, h, _ => by simp at h
  | _ :: _, _ :: _, [], _, _, _, h => by simp at h
  | n :: ns, w :: vs, y :: fs, v, x, h, g => by
    rw [List.zip_cons_cons, List.lookup_cons] at h g
    by_cases e : (f == n) = true
    · rw [e] at h g
      exact ⟨0, h, g⟩
    · have e : (f == n) = false := by simpa using e
      rw [e] at h g
      obtain ⟨j, a, b⟩ := zip_lookup h g
      exact ⟨j + 1, by simpa using a, by simpa using b⟩
theorem Rs.at (I : Rs cl kp τ F H fp env σ) {i : Nat} {o : O} (e : env[i]? = some o) {a : A} (w : o.vw = some a) : ∃ v, σ[i]? = some (some v) ∧ OR cl F H (fp i) o v := by
  rcases I.slot i o e with z | z
  · subst z; cases w
  · exact z
theorem RR.rv (I : Rs cl kp τ F H fp env σ) {r : R} {v : V} {a : A} (h : RR cl F H fp σ r v S) (e : r.vw env = some a) : Rv cl F H a v := by
  cases r with
  | fz b => cases e; exact Rp.rv I.le h
  | pl i =>
    obtain ⟨o, ho, e⟩ := Option.bind_eq_some_iff.mp e
    obtain ⟨u, hu, q⟩ := I.at ho e
    have h : σ[i]? = some (some v) := h
    rw [h] at hu
    cases hu
    exact q.rv I.le e
  | pf i f =>
    obtain ⟨o, ho, e⟩ := Option.bind_eq_some_iff.mp e
    cases o with
    | un => cases e
    | fl x => cases e
    | ins c ns fs =>
      obtain ⟨x, hx, z⟩ := Option.map_eq_some_iff.mp e
      subst z
      obtain ⟨u, hu, q⟩ := I.at ho rfl
      obtain ⟨p, c', dx', vs', hp, hh, hl⟩ := h
      rw [hp] at hu
      cases hu
      obtain ⟨p', dx, vs, T, e, _, _, q, d, z, z', r, _, _⟩ := q
      cases e
      rw [hh] at q
      cases q
      obtain ⟨j, a, b⟩ := zip_lookup hl hx
      exact FlR.rv I.le (r j x v b a)
  | ow o => exact h.1.rv I.le e

/-! ### a heap part that is frozen -/
open Classical in
noncomputable def plus (F H : Hp) (S : Addr → Prop) : Hp := fun p => if S p then H p else F p
theorem plus_in {p : Addr} (h : S p) : plus F H S p = H p := by unfold plus; rw [if_pos h]
theorem plus_out {p : Addr} (h : ¬ S p) : plus F H S p = F p := by unfold plus; rw [if_neg h]
theorem plus_le (s : ∀ p, S p → F p = none) : Same F (plus F H S) := fun p o e => by
  by_cases h : S p
  · rw [s p h] at e; cases e
  · rw [plus_out h]; exact e
theorem le_plus (s : Same F H) : Same (plus F H S) H := fun p o e => by
  by_cases h : S p
  · rw [plus_in h] at e; exact e
  · rw [plus_out h] at e; exact s _ _ e
theorem FlR.plus (s : ∀ p, S p → F p = none) {T : Addr → Prop} (k : ∀ p, T p → S p) {f : Fl} {v : V} (h : FlR cl F H T f v) : Rp cl (Dl.plus F H S) f.frz v := by
  have le := plus_le (H := H) s
  cases f with
  | fz a => exact Rp.same le h
  | lst xs => obtain ⟨p, vs, e, t, q, r⟩ := h; exact ⟨p, vs, e, by rw [plus_in (k _ t)]; exact q, RpL.same le r⟩
  | dK ks xs => obtain ⟨p, vs, e, t, q, z, r⟩ := h; exact ⟨p, vs, e, .inl (by rw [plus_in (k _ t)]; exact q), z, RpL.same le r⟩
  | dT ks xs => obtain ⟨p, vs, e, t, q, z, r⟩ := h; exact ⟨p, vs, e, .inl (by rw [plus_in (k _ t)]; exact q), z, RpL.same le r⟩
theorem OR.plus (s : ∀ p, S p → F p = none) {o : O} {v : V} {a : A} (h : OR cl F H S o v) (e : o.vw = some a) : Rp cl (Dl.plus F H S) a v := by
  cases o with
  | un => cases e
  | fl f => cases e; exact FlR.plus s (fun _ t => t) h
  | ins c ns fs =>
    cases e
    obtain ⟨p, dx, vs, T, e, sp, sd, q, d, z, z', r, a, _⟩ := h
    refine ⟨p, dx, vs, e, by rw [plus_in sp]; exact q, by rw [plus_in sd]; exact d, by simpa using z, RpL.of_at (by simpa using z') fun j b u hb hu => ?_⟩
    rw [List.getElem?_map, Option.map_eq_some_iff] at hb
    obtain ⟨f, hf, rfl⟩ := hb
    exact FlR.plus s (fun q t => (a j q t).1) (r j f u hf hu)
/-- new cells of its own are taken into F -/
theorem Rs.plus (I : Rs cl kp τ F H fp env σ) (n : ∀ p, S p → F p = none ∧ Nt H p ∧ ¬ U fp p) : Rs cl kp τ (plus F H S) H fp env σ := by
  have le := plus_le (H := H) fun p h => (n p h).1
  refine ⟨I.len, fun i o e => (I.slot i o e).imp id fun ⟨v, a, b⟩ => ⟨v, a, OR.go le (fun _ _ _ q => q) b⟩, I.dis, fun i p h => ?_, I.dom, le_plus I.le, I.pro, I.tl⟩
  rw [plus_out fun z => (n p z).2.2 ⟨i, h⟩]
  exact I.sep i p h
theorem Go.plus {U U' : Addr → Prop} {F1 H1 : Hp} (a : Go F H U F1 H1 (fun p => U' p ∨ S p)) (n : ∀ p, S p → F1 p = none) : Go F H U (plus F1 H1 S) H1 U' := by
  refine ⟨a.sF.trans (plus_le n), a.keep, fun p h e => ?_, fun p h => a.fpn p (.inl h), a.dom, a.ntd⟩
  by_cases s : S p
  · exact (a.fpn p (.inr s)).elim (fun z => .inr (.inl z)) .inl
  · rw [plus_out s] at h
    exact a.new p h e
/-! ### new things -/
theorem Rs.laid (I : Rs cl kp τ F H fp env σ) {p : Addr} {o : HO} (n : H p = none) : Rs cl kp τ F (upd H p o) fp env σ := by
  have ne : ∀ q, H q ≠ none → q ≠ p := fun q h e => by rw [e] at h; exact h n
  refine ⟨I.len, fun i x e => (I.slot i x e).imp id fun ⟨v, a, b⟩ => ⟨v, a, OR.go (Same.refl F) (fun q u h e => by rw [upd_ne (ne q (I.dom i q h).ne)]; exact e) b⟩, I.dis, I.sep, fun i q h => (I.dom i q h).keep (upd_ne (ne q (I.dom i q h).ne)), fun q u e => ?_, I.pro, I.tl⟩
  have := I.le _ _ e
  rw [upd_ne (ne q (by rw [this]; exact fun z => nomatch z))]; exact this
theorem Go.laid {U : Addr → Prop} {p : Addr} {o : HO} (n : H p = none) : Go F H U F (upd H p o) (fun q => U q ∨ q = p) := by
  refine ⟨Same.refl F, fun q u _ e => ?_, fun q h e => (h e).elim, fun q h => h.imp id fun e => by rw [e]; exact n, fun q h => ?_, fun q h => h.keep (upd_ne fun z => h.ne (by rw [z]; exact n))⟩
  · rw [upd_ne (fun z => by rw [z, n] at e; cases e)]; exact e
  · by_cases e : q = p
    · rw [e, upd_same]; exact fun z => nomatch z
    · rw [upd_ne e]; exact h
theorem Go.of_same {U : Addr → Prop} (s : Same H H') : Go F H U F H' U := by
  refine ⟨Same.refl F, fun p o _ e => s _ _ e, fun p h e => (h e).elim, fun p h => .inl h, fun p h => ?_, fun p ⟨o, a, b⟩ => ⟨o, s _ _ a, b⟩⟩
  cases e : H p with
  | none => exact (h e).elim
  | some o => rw [s _ _ e]; exact fun z => nomatch z

/-! ### expressions -/
def gV (i : Nat) : G := fun env => match env[i]? with
  | some (.fl (.fz a)) => some (.fz a, env)
  | some .un => none
  | some _ => some (.pl i, env)
  | none => none
theorem se_var {i : Nat} : SE cl kp true (tVar i) (gV i) := by
  intro τ F H fp env σ Q r env' I e k
  unfold gV at e
  split at e
  · rename_i a h
    cases e
    obtain ⟨v, hv, q⟩ := I.at h rfl
    exact ⟨v, hv, k F H fp (fun _ => False) v I (Go.refl.mono fun p z => z.elim id False.elim) q fun _ => ⟨rfl, rfl, Same.refl _⟩⟩
  · cases e
  · rename_i o h1 h2 h
    cases e
    rcases I.slot i o h with z | ⟨v, hv, q⟩
    · subst z; exact (h2 rfl).elim
    · exact ⟨v, hv, k F H fp (fun _ => False) v I (Go.refl.mono fun p z => z.elim id False.elim) hv fun _ => ⟨rfl, rfl, Same.refl _⟩⟩
  · cases e
def gK (a : A) : G := fun env => some (.fz a, env)
theorem se_const {v : V} {a : A} (h : a.sc = some v) : SE cl kp true (tC v) (gK a) := by
  intro τ F H fp env σ Q r env' I e k
  cases e
  exact k F H fp (fun _ => False) v I (Go.refl.mono fun p z => z.elim id False.elim) (Rp.of_sc h) fun _ => ⟨rfl, rfl, Same.refl _⟩
def gT (g : G) : G := fun env => (g env).map fun p => (p.1.tmp, p.2)
theorem SE.tmp {pu : Bool} {t : TE} {g : G} (h : SE cl kp pu t g) : SE cl kp pu t (gT g) := by
  intro τ F H fp env σ Q r env' I e k
  unfold gT at e
  rw [Option.map_eq_some_iff] at e
  obtain ⟨⟨r0, e0⟩, e, z⟩ := e
  cases z
  refine h I e fun F1 H1 fp1 S v I1 go rr pu => ?_
  cases r0 with
  | ow o =>
    show Q v H1
    cases w : o.vw with
    | none =>
      have : (R.ow o).tmp = .ow o := by show (match o.vw with | some a => R.fz a | none => .ow o) = _; rw [w]
      rw [this] at k
      exact k F1 H1 fp1 S v I1 go rr pu
    | some a =>
      have : (R.ow o).tmp = .fz a := by show (match o.vw with | some a => R.fz a | none => .ow o) = _; rw [w]
      rw [this] at k
      have n := fun p z => (rr.2 p z).1
      exact k (plus F1 H1 S) H1 fp1 (fun _ => False) v (I1.plus rr.2) ((go.plus n).mono fun p z => z.elim id False.elim) (OR.plus n rr.1 w) pu
  | fz a => exact k F1 H1 fp1 S v I1 go rr pu
  | pl i => exact k F1 H1 fp1 S v I1 go rr pu
  | pf i f => exact k F1 H1 fp1 S v I1 go rr pu
def R.isPf : R → Bool
  | .pf _ _ => true
  | _ => false
def R.isOw : R → Bool
  | .ow _ => true
  | _ => false
theorem RR.keep {r : R} {v : V} {F1 H1 : Hp} {fp1 : Nat → Addr → Prop} {S1 : Addr → Prop} (h : RR cl F H fp σ r v S) (no : r.isOw = false) (s : Same F F1) (hp : r.isPf = true → Same H H1) : RR cl F1 H1 fp1 σ r v S1 := by
  cases r with
  | fz a => exact Rp.same s h
  | pl i => exact h
  | pf i f => obtain ⟨p, c, dx, vs, a, b, e⟩ := h; exact ⟨p, c, dx, vs, a, hp rfl _ _ b, e⟩
  | ow o => cases no
/-- two operands, what is made of their views -/
def gTwo (pb : Bool) (ga gb : G) : Env → Option (A × A × Env) := fun env =>
  (ga env).bind fun p => (gb p.2).bind fun q => if p.1.tmp.isOw || (p.1.isPf && !pb) then none else (p.1.tmp.vw q.2).bind fun a => (q.1.vw q.2).bind fun b => some (a, b, q.2)
theorem se_two {pa pb : Bool} {ta tb : TE} {ga gb : G} (ha : SE cl kp pa ta ga) (hb : SE cl kp pb tb gb) {a b : A} {env' : Env} {W : V → V → Hp → Prop} (I : Rs cl kp τ F H fp env σ) (e : gTwo pb ga gb env = some (a, b, env'))
    (k : ∀ F' H' fp' x y, Rs cl kp τ F' H' fp' env' σ → Go F H (U fp) F' H' (U fp') → Rv cl F' H' a x → Rv cl F' H' b y → ((pa && pb) = true → env' = env ∧ fp' = fp ∧ Same H H') → W x y H') : ta σ H fun x H1 => tb σ H1 fun y H2 => W x y H2 := by
  unfold gTwo at e
  simp only [Option.bind_eq_some_iff] at e
  obtain ⟨⟨r1, e1⟩, h1, ⟨r2, e2⟩, h2, e⟩ := e
  by_cases c : (r1.tmp.isOw || (r1.isPf && !pb)) = true
  · simp only [if_pos c] at e
    cases e
  simp only [if_neg c, Option.bind_eq_some_iff] at e
  obtain ⟨a', w1, b', w2, z⟩ := e
  cases z
  have c : (r1.tmp.isOw || (r1.isPf && !pb)) = false := by simpa using c
  obtain ⟨c1, c2⟩ := Bool.or_eq_false_iff.mp c
  have g1 : gT ga env = some (r1.tmp, e1) := by unfold gT; rw [h1]; rfl
  refine ha.tmp I g1 fun F1 H1 fp1 S1 x I1 go1 rr1 pu1 => ?_
  refine hb I1 h2 fun F2 H2 fp2 S2 y I2 go2 rr2 pu2 => ?_
  have rr1' : RR cl F2 H2 fp2 σ r1.tmp x S1 := rr1.keep c1 go2.sF fun z => by
    have hpf : r1.isPf = true := by
      cases r1 with
      | ow o =>
        exfalso
        revert z
        show (match o.vw with | some a => R.fz a | none => .ow o).isPf = true → False
        cases o.vw <;> exact fun z => nomatch z
      | pf i f => rfl
      | fz a => cases z
      | pl i => cases z
    have : pb = true := by
      rw [hpf] at c2
      cases pb with
      | true => rfl
      | false => cases c2
    exact (pu2 this).2.2
  have go1' := go1.mono (V' := U fp1) fun p z => .inl z
  have go2' := go2.mono (V' := U fp2) fun p z => .inl z
  refine k F2 H2 fp2 x y I2 (go1'.trans go2') (rr1'.rv I2 w1) (rr2.rv I2 w2) fun z => ?_
  obtain ⟨z1, z2⟩ := (Bool.and_eq_true_iff.mp z)
  obtain ⟨a1, b1, s1⟩ := pu1 z1
  obtain ⟨a2, b2, s2⟩ := pu2 z2
  exact ⟨a2.trans a1, b2.trans b1, s1.trans s2⟩
/-- an operation whose answer is a thing that was there, or no object -/
def OpI (cl : Nat → Addr) (r : R2) (f : A → A → Option A) : Prop := ∀ ⦃F H : Hp⦄ ⦃x y : V⦄ ⦃a b c : A⦄ ⦃Q : VK⦄, Same F H → Rv cl F H a x → Rv cl F H b y → f a b = some c → (∀ v, Rp cl F c v → Q v H) → r x y H Q
def gOp (pb : Bool) (f : A → A → Option A) (ga gb : G) : G := fun env => (gTwo pb ga gb env).bind fun p => (f p.1 p.2.1).map fun c => (.fz c, p.2.2)
theorem se_op {pa pb : Bool} {ta tb : TE} {ga gb : G} {r : R2} {f : A → A → Option A} (hr : OpI cl r f) (ha : SE cl kp pa ta ga) (hb : SE cl kp pb tb gb) : SE cl kp (pa && pb) (tOp r ta tb) (gOp pb f ga gb) := by
  intro τ F H fp env σ Q z env' I e k
  unfold gOp at e
  rw [Option.bind_eq_some_iff] at e
  obtain ⟨⟨a, b, e2⟩, e1, e⟩ := e
  rw [Option.map_eq_some_iff] at e
  obtain ⟨c, hc, e⟩ := e
  cases e
  refine se_two (W := fun x y H2 => r x y H2 Q) ha hb I e1 fun F' H' fp' x y I' go rx ry pu => ?_
  exact hr I'.le rx ry hc fun v rc => k F' H' fp' (fun _ => False) v I' (go.mono fun p z => z.elim id False.elim) rc pu
def gOpN (pb : Bool) (f : A → A → Option (List A)) (ga gb : G) : G := fun env => (gTwo pb ga gb env).bind fun p => (f p.1 p.2.1).map fun c => (.ow (.fl (.lst c)), p.2.2)
theorem RR.newL (I : Rs cl kp τ F H fp env σ) {p : Addr} {xs : List A} {vs : List V} (n : H p = none) (r : RpL cl F xs vs) : RR cl F (upd H p (.lst vs)) fp σ (.ow (.fl (.lst xs))) (.ref p) (fun q => q = p) := by
  refine ⟨⟨p, vs, rfl, rfl, upd_same, r⟩, fun q e => ?_⟩
  subst e
  refine ⟨?_, Nt.new rfl, fun ⟨i, h⟩ => (I.dom i q h).ne n⟩
  cases e : F q with
  | none => rfl
  | some o => rw [I.le _ _ e] at n; cases n
theorem same_new {p : Addr} {o : HO} (n : H p = none) : Same H (upd H p o) := fun q u e => by rw [upd_ne (fun z => by rw [z, n] at e; cases e)]; exact e
/-- one operand -/
def UnI (cl : Nat → Addr) (r : V → Hp → VK → Prop) (f : A → Option A) : Prop := ∀ ⦃F H : Hp⦄ ⦃x : V⦄ ⦃a c : A⦄ ⦃Q : VK⦄, Same F H → Rv cl F H a x → f a = some c → (∀ v, Rp cl F c v → Q v H) → r x H Q
def gOne (ga : G) : Env → Option (A × Env) := fun env => (ga env).bind fun p => (p.1.vw p.2).map fun a => (a, p.2)
theorem se_one {pa : Bool} {ta : TE} {ga : G} (ha : SE cl kp pa ta ga) {a : A} {env' : Env} {W : V → Hp → Prop} (I : Rs cl kp τ F H fp env σ) (e : gOne ga env = some (a, env'))
    (k : ∀ F' H' fp' x, Rs cl kp τ F' H' fp' env' σ → Go F H (U fp) F' H' (U fp') → Rv cl F' H' a x → (pa = true → env' = env ∧ fp' = fp ∧ Same H H') → W x H') : ta σ H W := by
  unfold gOne at e
  rw [Option.bind_eq_some_iff] at e
  obtain ⟨⟨r1, e1⟩, h1, e⟩ := e
  rw [Option.map_eq_some_iff] at e
  obtain ⟨c, hc, e⟩ := e
  cases e
  exact ha I h1 fun F1 H1 fp1 S1 x I1 go1 rr1 pu1 => k F1 H1 fp1 x I1 (go1.mono fun p z => .inl z) (rr1.rv I1 hc) pu1
def gUn (f : A → Option A) (ga : G) : G := fun env => (gOne ga env).bind fun p => (f p.1).map fun c => (.fz c, p.2)
theorem se_un {pa : Bool} {ta : TE} {ga : G} {r : V → Hp → VK → Prop} {f : A → Option A} (hr : UnI cl r f) (ha : SE cl kp pa ta ga) : SE cl kp pa (tUn r ta) (gUn f ga) := by
  intro τ F H fp env σ Q z env' I e k
  unfold gUn at e
  rw [Option.bind_eq_some_iff] at e
  obtain ⟨⟨a, e2⟩, e1, e⟩ := e
  rw [Option.map_eq_some_iff] at e
  obtain ⟨c, hc, e⟩ := e
  cases e
  refine se_one (W := fun x H2 => r x H2 Q) ha I e1 fun F' H' fp' x I' go rx pu => ?_
  exact hr I'.le rx hc fun v rc => k F' H' fp' (fun _ => False) v I' (go.mono fun p z => z.elim id False.elim) rc pu
end
end Dl
namespace Dl
open PySem PySem.Spec L2

def R.settle (pu : Bool) (env : Env) : R → Option (A × Env)
  | .fz a => some (a, env)
  | .pl i => if pu then none else env[i]?.bind fun o => o.vw.map fun a => (a, env.set i (.fl (.fz a)))
  | .pf _ _ => none
  | .ow o => o.vw.map fun a => (a, env)
section
variable (cl : Nat → Addr)
/-- a value that is frozen where it stands -/
def SF (kp : List Nat) (pu : Bool) (t : TE) (g : Env → Option (A × Env)) : Prop :=
  ∀ ⦃τ : L2.St⦄ ⦃F H : Hp⦄ ⦃fp : Nat → Addr → Prop⦄ ⦃env : Env⦄ ⦃σ : L2.St⦄ ⦃Q : VK⦄ ⦃a : A⦄ ⦃env' : Env⦄, Rs cl kp τ F H fp env σ → g env = some (a, env') →
    (∀ F' H' fp' v, Rs cl kp τ F' H' fp' env' σ → Go F H (U fp) F' H' (U fp') → Rp cl F' a v → (pu = true → env' = env ∧ fp' = fp ∧ Same H H') → Q v H') → t σ H Q
def SA (kp : List Nat) (pu : Bool) (t : TA) (g : Env → Option (List A × Env)) : Prop :=
  ∀ ⦃τ : L2.St⦄ ⦃F H : Hp⦄ ⦃fp : Nat → Addr → Prop⦄ ⦃env : Env⦄ ⦃σ : L2.St⦄ ⦃Q : List V → Hp → Prop⦄ ⦃as : List A⦄ ⦃env' : Env⦄, Rs cl kp τ F H fp env σ → g env = some (as, env') →
    (∀ F' H' fp' vs, Rs cl kp τ F' H' fp' env' σ → Go F H (U fp) F' H' (U fp') → RpL cl F' as vs → (pu = true → env' = env ∧ fp' = fp ∧ Same H H') → Q vs H') → t σ H Q
def ST (kp : List Nat) (pu : Bool) (t : TT) (g : Env → Option (Bool × Env)) : Prop :=
  ∀ ⦃τ : L2.St⦄ ⦃F H : Hp⦄ ⦃fp : Nat → Addr → Prop⦄ ⦃env : Env⦄ ⦃σ : L2.St⦄ ⦃Q : Bool → Hp → Prop⦄ ⦃b : Bool⦄ ⦃env' : Env⦄, Rs cl kp τ F H fp env σ → g env = some (b, env') →
    (∀ F' H' fp', Rs cl kp τ F' H' fp' env' σ → Go F H (U fp) F' H' (U fp') → (pu = true → env' = env ∧ fp' = fp ∧ Same H H') → Q b H') → t σ H Q
end
section
variable {cl : Nat → Addr} {kp : List Nat} {τ σ : L2.St} {F F' H H' : Hp} {fp : Nat → Addr → Prop} {env : Env} {S : Addr → Prop}
def fpOff (fp : Nat → Addr → Prop) (i : Nat) : Nat → Addr → Prop := fun j p => j ≠ i ∧ fp j p
theorem set_at {α : Type} {l : List α} {i j : Nat} {x y : α} (h : (l.set i x)[j]? = some y) : (j = i ∧ y = x ∧ i < l.length) ∨ (j ≠ i ∧ l[j]? = some y) := by
  by_cases e : i = j
  · subst e
    by_cases hl : i < l.length
    · rw [List.getElem?_set_self hl] at h
      exact .inl ⟨rfl, (Option.some.inj h).symm, hl⟩
    · rw [List.getElem?_eq_none (by rw [List.length_set]; omega)] at h
      cases h
  · rw [List.getElem?_set_ne e] at h
    exact .inr ⟨fun z => e z.symm, h⟩
/-- a slot's thing is frozen -/
theorem Rs.freeze (I : Rs cl kp τ F H fp env σ) {i : Nat} {o : O} {a : A} {v : V} (e : env[i]? = some o) (w : o.vw = some a) (hv : σ[i]? = some (some v)) :
    Rs cl kp τ (Dl.plus F H (fp i)) H (fpOff fp i) (env.set i (.fl (.fz a))) σ ∧ Go F H (U fp) (Dl.plus F H (fp i)) H (U (fpOff fp i)) ∧ Rp cl (Dl.plus F H (fp i)) a v := by
  obtain ⟨u, hu, q⟩ := I.at e w
  rw [hv] at hu
  cases hu
  have s := I.sep i
  have le := plus_le (H := H) s
  have rp := OR.plus s q w
  refine ⟨⟨by rw [List.length_set]; exact I.len, fun j x hx => ?_, fun j k p a b => I.dis j k p a.2 b.2, fun j p h => ?_, fun j p h => I.dom j p h.2, le_plus I.le, I.pro, I.tl⟩, ?_, rp⟩
  · rcases set_at hx with ⟨rfl, rfl, _⟩ | ⟨ne, hx⟩
    · exact .inr ⟨v, hv, rp⟩
    · refine (I.slot j x hx).imp id fun ⟨v, a, b⟩ => ⟨v, a, OR.sub (fun p h => ⟨ne, h⟩) (OR.go le (fun _ _ _ z => z) b)⟩
  · rw [plus_out fun z => h.1 (I.dis j i p h.2 z)]
    exact I.sep j p h.2
  · refine ⟨le, fun _ _ _ z => z, fun p h e => ?_, fun p ⟨j, h⟩ => .inl ⟨j, h.2⟩, fun _ z => z, fun _ z => z⟩
    by_cases c : fp i p
    · exact .inr (.inl ⟨i, c⟩)
    · rw [plus_out c] at h
      exact (h e).elim
def gS (pu : Bool) (g : G) : Env → Option (A × Env) := fun env => (g env).bind fun p => p.1.settle pu p.2
theorem SE.sf {pu : Bool} {t : TE} {g : G} (h : SE cl kp pu t g) : SF cl kp pu t (gS pu g) := by
  intro τ F H fp env σ Q a env' I e k
  unfold gS at e
  rw [Option.bind_eq_some_iff] at e
  obtain ⟨⟨r, e1⟩, h1, e⟩ := e
  refine h I h1 fun F1 H1 fp1 S v I1 go rr pu1 => ?_
  have go' := go.mono (V' := U fp1) fun p z => .inl z
  cases r with
  | fz b => cases e; exact k F1 H1 fp1 v I1 go' rr pu1
  | pf i f => cases e
  | ow o =>
    obtain ⟨b, w, z⟩ := Option.map_eq_some_iff.mp e
    cases z
    have n := fun p z => (rr.2 p z).1
    exact k (plus F1 H1 S) H1 fp1 v (I1.plus rr.2) (go.plus n) (OR.plus n rr.1 w) pu1
  | pl i =>
    cases pu with
    | true => cases e
    | false =>
      obtain ⟨o, ho, e⟩ := Option.bind_eq_some_iff.mp (show (e1[i]?.bind fun o => o.vw.map fun a => (a, e1.set i (.fl (.fz a)))) = some (a, env') from e)
      obtain ⟨b, w, z⟩ := Option.map_eq_some_iff.mp e
      cases z
      obtain ⟨I2, go2, rp⟩ := I1.freeze ho w rr
      exact k _ _ _ v I2 (go'.trans go2) rp fun z => nomatch z
def gNil : Env → Option (List A × Env) := fun env => some ([], env)
def gCons (ga : Env → Option (A × Env)) (gr : Env → Option (List A × Env)) : Env → Option (List A × Env) := fun env => (ga env).bind fun p => (gr p.2).map fun q => (p.1 :: q.1, q.2)
theorem sa_nil : SA cl kp true tNil gNil := by
  intro τ F H fp env σ Q as env' I e k
  cases e
  exact k F H fp [] I Go.refl rfl fun _ => ⟨rfl, rfl, Same.refl _⟩
theorem pu_and {pa pb : Bool} {e0 e1 e2 : Env} {f0 f1 f2 : Nat → Addr → Prop} {H0 H1 H2 : Hp} (a : pa = true → e1 = e0 ∧ f1 = f0 ∧ Same H0 H1) (b : pb = true → e2 = e1 ∧ f2 = f1 ∧ Same H1 H2) : (pa && pb) = true → e2 = e0 ∧ f2 = f0 ∧ Same H0 H2 := fun z => by
  obtain ⟨z1, z2⟩ := Bool.and_eq_true_iff.mp z
  obtain ⟨a1, b1, s1⟩ := a z1
  obtain ⟨a2, b2, s2⟩ := b z2
  exact ⟨a2.trans a1, b2.trans b1, s1.trans s2⟩
theorem sa_cons {pa pb : Bool} {ta : TE} {tr : TA} {ga : Env → Option (A × Env)} {gr : Env → Option (List A × Env)} (ha : SF cl kp pa ta ga) (hr : SA cl kp pb tr gr) : SA cl kp (pa && pb) (tCons ta tr) (gCons ga gr) := by
  intro τ F H fp env σ Q as env' I e k
  unfold gCons at e
  rw [Option.bind_eq_some_iff] at e
  obtain ⟨⟨a, e1⟩, h1, e⟩ := e
  rw [Option.map_eq_some_iff] at e
  obtain ⟨⟨as', e2⟩, h2, z⟩ := e
  cases z
  refine ha I h1 fun F1 H1 fp1 v I1 go1 r1 pu1 => ?_
  refine hr I1 h2 fun F2 H2 fp2 vs I2 go2 r2 pu2 => ?_
  exact k F2 H2 fp2 (v :: vs) I2 (go1.trans go2) ⟨v, vs, rfl, Rp.same go2.sF r1, r2⟩ (pu_and pu1 pu2)
/-- a new frozen thing -/
theorem Rs.laidF (I : Rs cl kp τ F H fp env σ) {p : Addr} {o : HO} (n : H p = none) : Rs cl kp τ (upd F p o) (upd H p o) fp env σ := by
  have J := I.laid (o := o) n
  have fn : F p = none := by
    cases e : F p with
    | none => rfl
    | some u => rw [I.le _ _ e] at n; cases n
  refine ⟨J.len, fun i x e => (J.slot i x e).imp id fun ⟨v, a, b⟩ => ⟨v, a, OR.go (same_new fn) (fun _ _ _ z => z) b⟩, J.dis, fun i q h => ?_, J.dom, fun q u e => ?_, J.pro, J.tl⟩
  · rw [upd_ne (fun z => (I.dom i q h).ne (by rw [z]; exact n))]
    exact I.sep i q h
  · by_cases c : q = p
    · rw [c, upd_same] at e ⊢; exact e
    · rw [upd_ne c] at e ⊢; exact I.le _ _ e
theorem Go.laidF {U : Addr → Prop} {p : Addr} {o : HO} (le : Same F H) (n : H p = none) : Go F H U (upd F p o) (upd H p o) U := by
  have fn : F p = none := by
    cases e : F p with
    | none => rfl
    | some u => rw [le _ _ e] at n; cases n
  refine ⟨same_new fn, fun q u _ e => same_new n _ _ e, fun q h e => ?_, fun q h => .inl h, (Go.laid (F := F) (U := U) n).dom, (Go.laid (F := F) (U := U) n).ntd⟩
  by_cases c : q = p
  · rw [c]; exact .inl n
  · rw [upd_ne c] at h; exact (h e).elim
def gTup (g : Env → Option (List A × Env)) : G := fun env => (g env).bind fun p => if p.1.length ≤ sizeLine then some (.fz (.tup p.1), p.2) else none
def gLst (g : Env → Option (List A × Env)) : G := fun env => (g env).bind fun p => if p.1.length ≤ sizeLine then some (.ow (.fl (.lst p.1)), p.2) else none
theorem se_lst {pu : Bool} {t : TA} {g : Env → Option (List A × Env)} (h : SA cl kp pu t g) : SE cl kp pu (tLst t) (gLst g) := by
  intro τ F H fp env σ Q r env' I e k
  unfold gLst at e
  obtain ⟨⟨as, e1⟩, h1, e⟩ := Option.bind_eq_some_iff.mp e
  by_cases c : as.length ≤ sizeLine
  · simp only [if_pos c] at e
    cases e
    refine h I h1 fun F1 H1 fp1 vs I1 go1 r1 pu1 => ⟨by rw [r1.length]; exact c, fun p n => ?_⟩
    refine k _ _ fp1 (fun q => q = p) _ (I1.laid n) (go1.trans (Go.laid n)) (RR.newL I1 n r1) fun z => ?_
    obtain ⟨a, b, s⟩ := pu1 z
    exact ⟨a, b, s.trans (same_new n)⟩
  · simp only [if_neg c] at e
    cases e
/-! ### tests -/
def gB (g : G) : Env → Option (Bool × Env) := fun env => (g env).bind fun p => match p.1 with
  | .fz (.bl b) => some (b, p.2)
  | _ => none
theorem gB_inv {g : G} {b : Bool} {env env' : Env} (e : gB g env = some (b, env')) : g env = some (.fz (.bl b), env') := by
  unfold gB at e
  obtain ⟨⟨r, e1⟩, h1, e⟩ := Option.bind_eq_some_iff.mp e
  rw [h1]
  split at e
  · rename_i c hc
    cases e
    cases hc
    rfl
  · cases e
theorem st_val {pu : Bool} {t : TE} {g : G} (h : SE cl kp pu t g) : ST cl kp pu (tB t) (gB g) := by
  intro τ F H fp env σ Q b env' I e k
  exact h I (gB_inv e) fun F1 H1 fp1 S v I1 go rr pu1 => ⟨b, rr, k F1 H1 fp1 I1 (go.mono fun p z => .inl z) pu1⟩
theorem st_test {pu : Bool} {t : TE} {g : G} (h : SE cl kp pu t g) : ST cl kp pu (tTest t) (gB g) := st_val h
def gNotT (g : Env → Option (Bool × Env)) : Env → Option (Bool × Env) := fun env => (g env).map fun p => (!p.1, p.2)
theorem st_not {pu : Bool} {t : TT} {g : Env → Option (Bool × Env)} (h : ST cl kp pu t g) : ST cl kp pu (tNot t) (gNotT g) := by
  intro τ F H fp env σ Q b env' I e k
  obtain ⟨⟨c, e1⟩, h1, z⟩ := Option.map_eq_some_iff.mp e
  cases z
  exact h I h1 k
def gAndT (g k : Env → Option (Bool × Env)) : Env → Option (Bool × Env) := fun env => (g env).bind fun p => if p.1 then k p.2 else some (false, p.2)
def gOrT (g k : Env → Option (Bool × Env)) : Env → Option (Bool × Env) := fun env => (g env).bind fun p => if p.1 then some (true, p.2) else k p.2
theorem pu_left {pa pb : Bool} {P : Prop} (a : pa = true → P) : (pa && pb) = true → P := fun z => a (Bool.and_eq_true_iff.mp z).1
theorem st_or {pa pb : Bool} {t u : TT} {g h : Env → Option (Bool × Env)} (ha : ST cl kp pa t g) (hb : ST cl kp pb u h) : ST cl kp (pa && pb) (tOr t u) (gOrT g h) := by
  intro τ F H fp env σ Q b env' I e k
  obtain ⟨⟨c, e1⟩, h1, e⟩ := Option.bind_eq_some_iff.mp e
  refine ha I h1 fun F1 H1 fp1 I1 go1 pu1 => ?_
  cases c with
  | false => exact hb I1 e fun F2 H2 fp2 I2 go2 pu2 => k F2 H2 fp2 I2 (go1.trans go2) (pu_and pu1 pu2)
  | true => cases e; exact k F1 H1 fp1 I1 go1 (pu_left pu1)
/-! ### and, or, not, if as values -/
def gBl (g : Env → Option (Bool × Env)) : G := fun env => (g env).map fun p => (.fz (.bl p.1), p.2)
theorem ST.bl {pu : Bool} {t : TT} {g : Env → Option (Bool × Env)} (h : ST cl kp pu t g) : SE cl kp pu (fun σ H Q => t σ H fun c H1 => Q (.bl c) H1) (gBl g) := by
  intro τ F H fp env σ Q r env' I e k
  obtain ⟨⟨c, e1⟩, h1, z⟩ := Option.map_eq_some_iff.mp e
  cases z
  exact h I h1 fun F1 H1 fp1 I1 go1 pu1 => k F1 H1 fp1 (fun _ => False) _ I1 (go1.mono fun q z => z.elim id False.elim) rfl pu1
def gAndV (g k : G) : G := fun env => (gB g env).bind fun p => if p.1 then k p.2 else some (.fz (.bl false), p.2)
def gOrV (g k : G) : G := fun env => (gB g env).bind fun p => if p.1 then some (.fz (.bl true), p.2) else k p.2
def gIf (c : Env → Option (Bool × Env)) (g h : G) : G := fun env => (c env).bind fun p => if p.1 then g p.2 else h p.2
end
end Dl
namespace Dl
open PySem PySem.Spec L2

/-! ## operations on trees -/
def fI0 (g : Int → Int → A) : A → A → Option A
  | .int i, .int j => some (g i j)
  | _, _ => none
def fI (C : Int → Int → Prop) [∀ i j, Decidable (C i j)] (g : Int → Int → A) : A → A → Option A
  | .int i, .int j => if C i j then some (g i j) else none
  | _, _ => none
abbrev fAdd := fI0 fun i j => .int (i + j)
abbrev fSub := fI0 fun i j => .int (i - j)
abbrev fLt := fI0 fun i j => .bl (decide (i < j))
abbrev fGt := fI0 fun i j => .bl (decide (j < i))
abbrev fGe := fI0 fun i j => .bl (decide (j ≤ i))
instance : ∀ i j, Decidable (CMul i j) := fun i j => by unfold CMul; exact inferInstance
/-- // by a positive divisor that is not huge -/
def CDivB (i j : Int) : Prop := 0 < j ∧ j < 100000000000000000000000000000000000000000
theorem op_fdivB {X : Cx} : OpR X (binaryOp .FloorDiv) (rI CDivB fun i j => .int (i / j)) := opI fun i j _ _ _ _ _ hc q => by
  have h1 : (0 : Int) < j := hc.1
  have h2 : j < 100000000000000000000000000000000000000000 := hc.2
  refine PyProof.Rows.floordiv_int (by omega) (by rw [Int.fdiv_eq_ediv_of_nonneg i (by omega)]; exact q) (.inl (PyProof.noPylong_of_log2 (Nat.lt_trans ((Nat.log2_lt (by omega)).mpr (Nat.lt_trans (m := 100000000000000000000000000000000000000000) (by omega) (by decide +kernel : 100000000000000000000000000000000000000000 < 2 ^ 137))) (by decide))))
instance : ∀ i j, Decidable (CDivB i j) := fun i j => by unfold CDivB; exact inferInstance
instance : ∀ i j, Decidable (CPow i j) := fun i j => by unfold CPow; exact inferInstance
abbrev fMul := fI CMul fun i j => .int (i * j)
abbrev fDiv := fI CDivB fun i j => .int (i / j)
abbrev fMod := fI (fun _ j => 0 < j) fun i j => .int (i % j)
abbrev fPow := fI CPow fun i j => .int (i ^ j.toNat)
def fEq (a b : A) : Option A := a.sc.bind fun x => b.sc.bind fun y => if scal x y then some (.bl (decide (x = y))) else none
def fNe (a b : A) : Option A := a.sc.bind fun x => b.sc.bind fun y => if scal x y then some (.bl (!decide (x = y))) else none
mutual
def A.toD : A → Option PyData
  | .non => some .none | .bl b => some (.bool b) | .int i => some (.int i) | .str s => some (.str s)
  | .lst xs => (A.toDL xs).map .list
  | .tup xs => (A.toDL xs).map .tuple
  | _ => none
def A.toDL : List A → Option (List PyData)
  | [] => some []
  | x :: xs => (A.toD x).bind fun d => (A.toDL xs).map (d :: ·)
end
def fEqD (a b : A) : Option A := a.toD.bind fun d => b.toD.bind fun e => if SeqAt.shaped d && SeqAt.shaped e then some (.bl (PyData.eqv d e)) else none
def fNeD (a b : A) : Option A := a.toD.bind fun d => b.toD.bind fun e => if SeqAt.shaped d && SeqAt.shaped e then some (.bl (!PyData.eqv d e)) else none
def scs : List A → Option (List V)
  | [] => some []
  | x :: xs => x.sc.bind fun v => (scs xs).map (v :: ·)
def A.items : A → Option (List A)
  | .lst xs => some xs | .tup xs => some xs | _ => none
/-- in, of flat things -/
def fInS (neg : Bool) (a b : A) : Option A := a.sc.bind fun x => b.items.bind fun l => (scs l).map fun ys => .bl (if neg then !inV x ys else inV x ys)
def fIxL (a b : A) : Option A := match a, b with
  | .lst xs, .int i => atI xs i
  | _, _ => none
def fIxT (a b : A) : Option A := match a, b with
  | .tup xs, .int i => atI xs i
  | _, _ => none
def fIxS (a b : A) : Option A := match a, b with
  | .str z, .int i => if z.length ≤ sizeLine then (atI z.cps.toList i).map fun c => .str ⟨#[c]⟩ else none
  | _, _ => none
def fAddS (a b : A) : Option A := match a, b with
  | .str i, .str j => if i.length + j.length ≤ sizeLine then some (.str (i ++ j)) else none
  | _, _ => none
def fLtS (a b : A) : Option A := match a, b with
  | .str i, .str j => some (.bl (decide (i.cps.toList < j.cps.toList)))
  | _, _ => none
def fLeS (a b : A) : Option A := match a, b with
  | .str i, .str j => some (.bl (!decide (j.cps.toList < i.cps.toList)))
  | _, _ => none
def fCat (a b : A) : Option (List A) := match a, b with
  | .lst xs, .lst ys => if xs.length + ys.length ≤ sizeLine then some (xs ++ ys) else none
  | _, _ => none
def keyA : A → Option Key
  | .int i => some (.inl i) | .str s => some (.inr s) | _ => none
def keysA : List A → Option (List Key)
  | [] => some []
  | x :: xs => (keyA x).bind fun k => (keysA xs).map (k :: ·)
section
variable {cl : Nat → Addr}
theorem oi_I0 {g : Int → Int → V} {h : Int → Int → A} (e : ∀ i j, (h i j).sc = some (g i j)) : OpI cl (rI0 g) (fI0 h) := by
  intro F H x y a b c Q s ra rb hf k
  unfold fI0 at hf
  split at hf
  · cases hf
    exact ⟨_, _, ra, rb, k _ (Rp.of_sc (e _ _))⟩
  · cases hf
theorem oi_I {C : Int → Int → Prop} [∀ i j, Decidable (C i j)] {g : Int → Int → V} {h : Int → Int → A} (e : ∀ i j, (h i j).sc = some (g i j)) : OpI cl (rI C g) (fI C h) := by
  intro F H x y a b c Q s ra rb hf k
  unfold fI at hf
  split at hf
  · rename_i i j
    by_cases z : C i j
    · rw [if_pos z] at hf
      cases hf
      exact ⟨_, _, ra, rb, z, k _ (Rp.of_sc (e _ _))⟩
    · rw [if_neg z] at hf; cases hf
  · cases hf
theorem oi_add : OpI cl (rI0 fun i j => .int (i + j)) fAdd := oi_I0 fun _ _ => rfl
theorem oi_sub : OpI cl (rI0 fun i j => .int (i - j)) fSub := oi_I0 fun _ _ => rfl
theorem oi_lt : OpI cl (rI0 fun i j => .bl (decide (i < j))) fLt := oi_I0 fun _ _ => rfl
theorem oi_gt : OpI cl (rI0 fun i j => .bl (decide (j < i))) fGt := oi_I0 fun _ _ => rfl
theorem oi_ge : OpI cl (rI0 fun i j => .bl (decide (j ≤ i))) fGe := oi_I0 fun _ _ => rfl
theorem oi_mul : OpI cl (rI CMul fun i j => .int (i * j)) fMul := oi_I fun _ _ => rfl
theorem oi_div : OpI cl (rI CDivB fun i j => .int (i / j)) fDiv := oi_I fun _ _ => rfl
theorem oi_mod : OpI cl (rI (fun _ j => 0 < j) fun i j => .int (i % j)) fMod := oi_I fun _ _ => rfl
theorem oi_pow : OpI cl (rI CPow fun i j => .int (i ^ j.toNat)) fPow := oi_I fun _ _ => rfl
theorem Rv.sc {F H : Hp} {a : A} {v u : V} (h : Rv cl F H a u) (e : a.sc = some v) : u = v := by
  cases a <;> simp [A.sc] at e <;> subst e <;> exact h
theorem oi_eq : OpI cl rEq fEq := by
  intro F H x y a b c Q s ra rb hf k
  unfold fEq at hf
  obtain ⟨v, hv, hf⟩ := Option.bind_eq_some_iff.mp hf
  obtain ⟨u, hu, hf⟩ := Option.bind_eq_some_iff.mp hf
  by_cases z : scal v u = true
  · rw [if_pos z] at hf
    cases hf
    rw [ra.sc hv, rb.sc hu]
    exact ⟨z, k _ rfl⟩
  · rw [if_neg z] at hf; cases hf
mutual
theorem Rp.dp {K : PySem.W.Frag} {H : Hp} : ∀ {a : A} {v : V} {d : PyData}, Rp cl H a v → a.toD = some d → Dp K H v d
  | .non, _, _, h, e => by cases h; cases e; exact .non
  | .bl _, _, _, h, e => by cases h; cases e; exact .bl _
  | .int _, _, _, h, e => by cases h; cases e; exact .int _
  | .str _, _, _, h, e => by cases h; cases e; exact .str _
  | .lst _, _, _, h, e => by
    obtain ⟨p, vs, rfl, q, r⟩ := h
    obtain ⟨ds, hd, rfl⟩ := Option.map_eq_some_iff.mp e
    exact .lst (SqL.of q) (RpL.dp r hd)
  | .tup _, _, _, h, e => by
    obtain ⟨p, vs, rfl, q, r⟩ := h
    obtain ⟨ds, hd, rfl⟩ := Option.map_eq_some_iff.mp e
    exact .tup (SqT.of q) (RpL.dp r hd)
  | .dK _ _, _, _, _, e => by cases e
  | .dT _ _, _, _, _, e => by cases e
  | .ins _ _ _, _, _, _, e => by cases e
  | .kls _, _, _, _, e => by cases e
theorem RpL.dp {K : PySem.W.Frag} {H : Hp} : ∀ {xs : List A} {vs : List V} {ds : List PyData}, RpL cl H xs vs → A.toDL xs = some ds → DpAll K H vs ds
  | [], _, _, h, e => by cases h; cases e; exact .nil
  | _ :: _, _, _, h, e => by
    obtain ⟨v, r, rfl, q, z⟩ := h
    obtain ⟨d, hd, e⟩ := Option.bind_eq_some_iff.mp e
    obtain ⟨ds, hds, rfl⟩ := Option.map_eq_some_iff.mp e
    exact .cons (Rp.dp q hd) (RpL.dp z hds)
end
theorem and_t {a b : Bool} (h : (a && b) = true) : a = true ∧ b = true := Bool.and_eq_true_iff.mp h
theorem oi_neD {K : PySem.W.Frag} : OpI cl (rNeD K) fNeD := by
  intro F H x y a b c Q s ra rb hf k
  unfold fNeD at hf
  obtain ⟨d, hd, hf⟩ := Option.bind_eq_some_iff.mp hf
  obtain ⟨e, he, hf⟩ := Option.bind_eq_some_iff.mp hf
  split at hf
  · rename_i z
    cases hf
    exact ⟨d, e, (ra.rp s).dp hd, (rb.rp s).dp he, (and_t z).1, (and_t z).2, k _ rfl⟩
  · cases hf
theorem RpL.scs : ∀ {F : Hp} {xs : List A} {vs us : List V}, RpL cl F xs vs → scs xs = some us → vs = us
  | _, [], _, _, h, e => by cases h; cases e; rfl
  | _, _ :: _, _, _, h, e => by
    obtain ⟨v, r, rfl, q, z⟩ := h
    obtain ⟨d, hd, e⟩ := Option.bind_eq_some_iff.mp e
    obtain ⟨ds, hds, rfl⟩ := Option.map_eq_some_iff.mp e
    rw [q.sc hd, RpL.scs z hds]
theorem sc_flat {a : A} {v : V} (e : a.sc = some v) : flatV v = true := by
  cases a <;> simp [A.sc] at e <;> subst e <;> rfl
theorem scs_flat : ∀ {xs : List A} {us : List V}, scs xs = some us → us.all flatV = true
  | [], _, e => by cases e; rfl
  | _ :: _, _, e => by
    obtain ⟨d, hd, e⟩ := Option.bind_eq_some_iff.mp e
    obtain ⟨ds, hds, rfl⟩ := Option.map_eq_some_iff.mp e
    rw [List.all_cons, sc_flat hd, scs_flat hds]
    rfl
theorem Rv.items {K : PySem.W.Frag} {F H : Hp} {a : A} {v : V} {l : List A} (s : Same F H) (h : Rv cl F H a v) (e : a.items = some l) : ∃ p vs, v = .ref p ∧ (SqL K H p vs ∨ SqT K H p vs) ∧ RpL cl F l vs := by
  cases a with
  | lst xs => cases e; obtain ⟨p, vs, e, q, r⟩ := h; exact ⟨p, vs, e, .inl (SqL.of q), r⟩
  | tup xs => cases e; obtain ⟨p, vs, e, q, r⟩ := h; exact ⟨p, vs, e, .inr (SqT.of (s _ _ q)), r⟩
  | _ => cases e
theorem oi_inS {K : PySem.W.Frag} {neg : Bool} : OpI cl (rIn K neg) (fInS neg) := by
  intro F H x y a b c Q s ra rb hf k
  unfold fInS at hf
  obtain ⟨v, hv, hf⟩ := Option.bind_eq_some_iff.mp hf
  obtain ⟨l, hl, hf⟩ := Option.bind_eq_some_iff.mp hf
  obtain ⟨ys, hy, rfl⟩ := Option.map_eq_some_iff.mp hf
  obtain ⟨p, vs, rfl, q, r⟩ := Rv.items (K := K) s rb hl
  rw [RpL.scs r hy] at q
  rw [ra.sc hv]
  exact ⟨p, ys, rfl, q, sc_flat hv, scs_flat hy, k _ rfl⟩
theorem RpL.atI {F : Hp} {xs : List A} {vs : List V} {i : Int} {a : A} (h : RpL cl F xs vs) (e : L2.atI xs i = some a) : ∃ v, L2.atI vs i = some v ∧ Rp cl F a v := by
  unfold L2.atI at e ⊢
  rw [h.length]
  obtain ⟨j, hj, e⟩ := Option.bind_eq_some_iff.mp e
  obtain ⟨v, hv, r⟩ := h.at e
  exact ⟨v, by rw [hj]; exact hv, r⟩
theorem oi_ixL {K : PySem.W.Frag} : OpI cl (rIxL K) fIxL := by
  intro F H x y a b c Q s ra rb hf k
  unfold fIxL at hf
  split at hf
  · obtain ⟨p, vs, rfl, q, r⟩ := ra
    obtain ⟨v, hv, rv⟩ := r.atI hf
    exact ⟨p, vs, _, v, rfl, rb, SqL.of q, hv, k v rv⟩
  · cases hf
theorem oi_ixS : OpI cl rIxS fIxS := by
  intro F H x y a b c Q s ra rb hf k
  unfold fIxS at hf
  split at hf
  · split at hf
    · rename_i z
      obtain ⟨u, hu, rfl⟩ := Option.map_eq_some_iff.mp hf
      exact ⟨_, _, u, ra, rb, z, hu, k _ rfl⟩
    · cases hf
  · cases hf
theorem oi_addS : OpI cl (fun x y H Q => ∃ i j, x = .str i ∧ y = .str j ∧ i.length + j.length ≤ sizeLine ∧ Q (.str (i ++ j)) H) fAddS := by
  intro F H x y a b c Q s ra rb hf k
  unfold fAddS at hf
  split at hf
  · split at hf
    · rename_i z
      cases hf
      exact ⟨_, _, ra, rb, z, k _ rfl⟩
    · cases hf
  · cases hf
/-! ### dicts -/
variable {kp : List Nat}
/-! ### unary -/
/-! ### chains of two comparisons -/
def gChain (f f' : A → A → Option A) (ga gb gc : G) : G := fun env => (gTwo true ga gb env).bind fun p => (f p.1 p.2.1).bind fun z => match z with
  | .bl true => (gOne gc p.2.2).bind fun q => (f' p.2.1 q.1).map fun c => (.fz c, q.2)
  | .bl false => some (.fz (.bl false), p.2.2)
  | _ => none
/-! ### built-ins of one argument -/
def BI (cl : Nat → Addr) (r : List V → Hp → VK → Prop) (f : A → Option A) : Prop := ∀ ⦃F H : Hp⦄ ⦃x : V⦄ ⦃a c : A⦄ ⦃Q : VK⦄, Same F H → Rv cl F H a x → f a = some c → (∀ v, Rp cl F c v → Q v H) → r [x] H Q
theorem se_b1 {pa : Bool} {ta : TE} {ga : G} {r : List V → Hp → VK → Prop} {f : A → Option A} (hr : BI cl r f) (ha : SE cl kp pa ta ga) : SE cl kp pa (tCB r (tCons ta tNil)) (gUn f ga) :=
  se_un (r := fun x H Q => r [x] H Q) (fun F H x a c Q s ra hf k => hr s ra hf k) ha
def gUnN (f : A → Option (List A)) (ga : G) : G := fun env => (gOne ga env).bind fun p => (f p.1).map fun c => (.ow (.fl (.lst c)), p.2)
def gUnU (f : A → Option (List A)) (ga : G) : G := fun env => (gOne ga env).bind fun p => (f p.1).map fun c => (.fz (.tup c), p.2)
theorem fnone {F H : Hp} (s : Same F H) {p : Addr} (n : H p = none) : F p = none := by
  cases e : F p with
  | none => rfl
  | some u => rw [s _ _ e] at n; cases n
def fLen : A → Option A
  | .lst xs => some (.int xs.length) | .tup xs => some (.int xs.length) | _ => none
def fLenS : A → Option A
  | .str z => if z.length ≤ sizeLine then some (.int z.length) else none
  | _ => none
def fInt : A → Option A
  | .int i => some (.int i) | .bl k => some (.int (if k then 1 else 0)) | _ => none
def fAbs : A → Option A
  | .int i => some (.int (if i < 0 then -i else i)) | _ => none
def bls : List A → Option (List Bool)
  | [] => some []
  | .bl b :: xs => (bls xs).map (b :: ·)
  | _ :: _ => none
def fAll : A → Option A
  | .lst xs => (bls xs).map fun l => .bl (l.all id) | _ => none
def fAny : A → Option A
  | .lst xs => (bls xs).map fun l => .bl (l.any id) | _ => none
theorem bi_len {K : PySem.W.Frag} : BI cl (fun xs H Q => ∃ p ys, xs = [.ref p] ∧ (SqL K H p ys ∨ SqT K H p ys) ∧ Q (.int ys.length) H) fLen := by
  intro F H x a c Q s ra hf k
  cases a with
  | lst xs => cases hf; obtain ⟨p, vs, rfl, q, r⟩ := ra; exact ⟨p, vs, rfl, .inl (SqL.of q), k _ (by rw [r.length]; rfl)⟩
  | tup xs => cases hf; obtain ⟨p, vs, rfl, q, r⟩ := ra; exact ⟨p, vs, rfl, .inr (SqT.of (s _ _ q)), k _ (by rw [r.length]; rfl)⟩
  | _ => cases hf
theorem bi_lenS : BI cl (fun xs H Q => ∃ z, xs = [.str z] ∧ z.length ≤ sizeLine ∧ Q (.int z.length) H) fLenS := by
  intro F H x a c Q s ra hf k
  unfold fLenS at hf
  split at hf
  · split at hf
    · rename_i z
      cases hf; cases ra; exact ⟨_, rfl, z, k _ rfl⟩
    · cases hf
  · cases hf
theorem bi_int : BI cl (fun xs H Q => (∃ i, xs = [.int i] ∧ Q (.int i) H) ∨ ∃ k, xs = [.bl k] ∧ Q (.int (if k then 1 else 0)) H) fInt := by
  intro F H x a c Q s ra hf k
  cases a with
  | int i => cases hf; cases ra; exact .inl ⟨i, rfl, k _ rfl⟩
  | bl b => cases hf; cases ra; exact .inr ⟨b, rfl, k _ rfl⟩
  | _ => cases hf
theorem RpL.bls : ∀ {F : Hp} {xs : List A} {vs : List V} {bs : List Bool}, RpL cl F xs vs → bls xs = some bs → vs = bs.map V.bl
  | _, [], _, _, h, e => by cases h; cases e; rfl
  | _, a :: xs, _, _, h, e => by
    obtain ⟨v, r, rfl, q, z⟩ := h
    cases a with
    | bl b =>
      obtain ⟨ds, hds, rfl⟩ := Option.map_eq_some_iff.mp (show (Dl.bls xs).map (b :: ·) = some _ from e)
      cases (show v = V.bl b from q)
      rw [RpL.bls z hds]
      rfl
    | _ => cases e
def A.lsts : A → Option (List A)
  | .lst xs => some xs | _ => none
/-! ### isinstance with a built-in type -/
/-! ### list(range(..)) -/
def rgA (a b : Int) : List A := (List.range (b - a).toNat).map fun i => A.int (a + (i : Nat))
instance : ∀ i j, Decidable (RgOk i j) := fun i j => by unfold RgOk; exact inferInstance
def fRg1 : A → Option (List A)
  | .int n => if RgOk 0 n then some (rgA 0 n) else none
  | _ => none
end
end Dl
namespace Dl
open PySem PySem.Spec L2

/-! ## places -/
def Fl.own : Fl → Bool
  | .fz _ => false | _ => true
def FlO (cl : Nat → Addr) (F : Hp) : Fl → HO → Prop
  | .fz _, _ => False
  | .lst xs, o => ∃ vs, o = .lst vs ∧ RpL cl F xs vs
  | .dK ks xs, o => ∃ vs, o = .dK (ks.zip vs) ∧ ks.length = xs.length ∧ RpL cl F xs vs
  | .dT ks xs, o => ∃ vs, o = .dT (ks.zip vs) ∧ ks.length = xs.length ∧ RpL cl F xs vs
def O.flat : O → Option Fl
  | .fl f => some f | _ => none
def O.fldO (n : Str) : O → Option Fl
  | .ins _ ns fs => fld ns fs n | _ => none
def getP (env : Env) : R → Option Fl
  | .pl i => env[i]?.bind O.flat
  | .pf i n => env[i]?.bind (O.fldO n)
  | _ => none
def setFld : List Str → List Fl → Str → Fl → List Fl
  | n :: ns, f :: fs, m, x => if m == n then x :: fs else f :: setFld ns fs m x
  | _, fs, _, _ => fs
def O.putFld (n : Str) (x : Fl) : O → O
  | .ins c ns fs => .ins c ns (setFld ns fs n x) | o => o
def putP (env : Env) : R → Fl → Env
  | .pl i, x => env.set i (.fl x)
  | .pf i n, x => match env[i]? with
    | some o => env.set i (o.putFld n x)
    | none => env
  | _, _ => env
section
variable {cl : Nat → Addr} {kp : List Nat} {τ σ : L2.St} {F F' H H' : Hp} {fp : Nat → Addr → Prop} {env : Env} {S : Addr → Prop} {Eh : XK}
theorem FlR.root {f : Fl} {v : V} (h : FlR cl F H S f v) (w : f.own = true) : ∃ p o, v = .ref p ∧ S p ∧ H p = some o ∧ FlO cl F f o := by
  cases f with
  | fz a => cases w
  | lst xs => obtain ⟨p, vs, e, s, q, r⟩ := h; exact ⟨p, _, e, s, q, vs, rfl, r⟩
  | dK ks xs => obtain ⟨p, vs, e, s, q, z, r⟩ := h; exact ⟨p, _, e, s, q, vs, rfl, z, r⟩
  | dT ks xs => obtain ⟨p, vs, e, s, q, z, r⟩ := h; exact ⟨p, _, e, s, q, vs, rfl, z, r⟩
theorem FlR.of_root {f : Fl} {p : Addr} {o : HO} (s : S p) (q : H p = some o) (h : FlO cl F f o) : FlR cl F H S f (.ref p) := by
  cases f with
  | fz a => exact h.elim
  | lst xs => obtain ⟨vs, rfl, r⟩ := h; exact ⟨p, vs, rfl, s, q, r⟩
  | dK ks xs => obtain ⟨vs, rfl, z, r⟩ := h; exact ⟨p, vs, rfl, s, q, z, r⟩
  | dT ks xs => obtain ⟨vs, rfl, z, r⟩ := h; exact ⟨p, vs, rfl, s, q, z, r⟩
theorem FlO.same (s : Same F F') {f : Fl} {o : HO} (h : FlO cl F f o) : FlO cl F' f o := by
  cases f with
  | fz a => exact h
  | lst xs => obtain ⟨vs, e, r⟩ := h; exact ⟨vs, e, RpL.same s r⟩
  | dK ks xs => obtain ⟨vs, e, z, r⟩ := h; exact ⟨vs, e, z, RpL.same s r⟩
  | dT ks xs => obtain ⟨vs, e, z, r⟩ := h; exact ⟨vs, e, z, RpL.same s r⟩
theorem setFld_len : ∀ (ns : List Str) (fs : List Fl) (m : Str) (x : Fl), (setFld ns fs m x).length = fs.length
  | [], _, _, _ => rfl
  | _ :: _, [], _, _ => rfl
  | n :: ns, f :: fs, m, x => by
    unfold setFld
    split
    · rfl
    · rw [List.length_cons, setFld_len ns fs m x, List.length_cons]
theorem zip_lookup2 {f : Str} {y : Fl} : ∀ {ns : List Str} {vs : List V} {fs : List Fl} {v : V} {x : Fl}, (ns.zip vs).lookup f = some v → (ns.zip fs).lookup f = some x → ∃ j : Nat, vs[j]? = some v ∧ fs[j]? = some x ∧ setFld ns fs f y = fs.set j y
  | [], _, _, _, _, h, _ => by simp at h
  | _ :: _, [], _, _, _, h, _ => by simp at h
  | _ :: _, _ :: _, [], _, _, _, h => by simp at h
  | n :: ns, w :: vs, y' :: fs, v, x, h, g => by
    rw [List.zip_cons_cons, List.lookup_cons] at h g
    by_cases e : (f == n) = true
    · rw [e] at h g
      exact ⟨0, h, g, by unfold setFld; rw [if_pos e]; rfl⟩
    · have e' : (f == n) = false := by simpa using e
      rw [e'] at h g
      obtain ⟨j, a, b, c⟩ := zip_lookup2 h g
      exact ⟨j + 1, by simpa using a, by simpa using b, by unfold setFld; rw [if_neg e, c]; rfl⟩
theorem dom_upd {p q : Addr} {o : HO} (h : H q ≠ none) : upd H p o q ≠ none := by
  by_cases e : q = p
  · rw [e, upd_same]; exact fun z => nomatch z
  · rw [upd_ne e]; exact h
theorem nt_upd {p q : Addr} {o : HO} (ho : HOtup o = false) (h : Nt H q) : Nt (upd H p o) q := by
  by_cases e : q = p
  · rw [e]; exact Nt.new ho
  · exact h.keep (upd_ne e)
theorem FlO.nt {f : Fl} {o : HO} (h : FlO cl F f o) : HOtup o = false := by
  cases f with
  | fz a => exact h.elim
  | lst xs => obtain ⟨vs, rfl, _⟩ := h; rfl
  | dK ks xs => obtain ⟨vs, rfl, _⟩ := h; rfl
  | dT ks xs => obtain ⟨vs, rfl, _⟩ := h; rfl
theorem Go.upd {p : Addr} {o : HO} {U : Addr → Prop} (ho : HOtup o = false) (h : U p) : Go F H U F (L2.upd H p o) U :=
  ⟨Same.refl F, fun q u n e => by rw [upd_ne (fun z => n (by rw [z]; exact h))]; exact e, fun q a e => (a e).elim, fun q h => .inl h, fun q h => dom_upd h, fun q h => nt_upd ho h⟩
/-- what stands at a place may be replaced -/
theorem place_ok (I : Rs cl kp τ F H fp env σ) {r : R} {v : V} {f : Fl} (h : RR cl F H fp σ r v S) (e : getP env r = some f) (w : f.own = true) :
    ∃ p o, v = .ref p ∧ H p = some o ∧ FlO cl F f o ∧ ∀ f' o', FlO cl F f' o' → Rs cl kp τ F (upd H p o') fp (putP env r f') σ ∧ Go F H (U fp) F (upd H p o') (U fp) := by
  have le : ∀ {p : Addr} {i : Nat} {o' : HO}, fp i p → Same F (upd H p o') := fun {p i o'} hp q u e => by
    rw [upd_ne (fun z => by rw [z, I.sep i p hp] at e; cases e)]
    exact I.le _ _ e
  have slots : ∀ {p : Addr} {i : Nat} {o' : HO} {x : O}, HOtup o' = false → fp i p → (∃ v, σ[i]? = some (some v) ∧ OR cl F (upd H p o') (fp i) x v) → Rs cl kp τ F (upd H p o') fp (env.set i x) σ := fun {p i o' x} ho hp hx => by
    refine ⟨by rw [List.length_set]; exact I.len, fun j y hy => ?_, I.dis, I.sep, fun j q h => nt_upd ho (I.dom j q h), le hp, I.pro, I.tl⟩
    rcases set_at hy with ⟨rfl, rfl, _⟩ | ⟨ne, hy⟩
    · exact .inr hx
    · exact (I.slot j y hy).imp id fun ⟨v, a, b⟩ => ⟨v, a, OR.go (Same.refl F) (fun q u h e => by rw [upd_ne (fun z => ne (I.dis j i p (by rw [← z]; exact h) hp))]; exact e) b⟩
  cases r with
  | fz a => cases e
  | ow o => cases e
  | pl i =>
    obtain ⟨o, ho, e⟩ := Option.bind_eq_some_iff.mp e
    cases o with
    | un => cases e
    | ins c ns fs => cases e
    | fl f0 =>
      cases e
      obtain ⟨u, hu, q⟩ := I.at ho rfl
      have h : σ[i]? = some (some v) := h
      rw [h] at hu
      cases hu
      obtain ⟨p, o, e, s, hp, ho'⟩ := FlR.root q w
      refine ⟨p, o, e, hp, ho', fun f' o' h' => ⟨slots h'.nt s ⟨v, h, ?_⟩, Go.upd h'.nt ⟨i, s⟩⟩⟩
      rw [e]
      exact FlR.of_root s upd_same h'
  | pf i n =>
    obtain ⟨o, ho, e⟩ := Option.bind_eq_some_iff.mp e
    cases o with
    | un => cases e
    | fl f0 => cases e
    | ins c ns fs =>
      have e : (ns.zip fs).lookup n = some f := e
      obtain ⟨u, hu, q⟩ := I.at ho rfl
      obtain ⟨p', c', dx', vs', hp, hh, hl⟩ := h
      rw [hp] at hu
      cases hu
      obtain ⟨p0, dx, vs, T, e0, sp, sd, q, d, z, z', rr, t1, t2⟩ := q
      cases e0
      rw [hh] at q
      cases q
      obtain ⟨j, a, b, _⟩ := zip_lookup2 (y := f) hl e
      obtain ⟨p, o, e1, s, hp1, ho'⟩ := FlR.root (rr j f v b a) w
      have sp1 := (t1 j p s).1
      refine ⟨p, o, e1, hp1, ho', fun f' o' h' => ?_⟩
      obtain ⟨j', a', b', sf⟩ := zip_lookup2 (y := f') hl e
      have pe : putP env (.pf i n) f' = env.set i (.ins c ns (setFld ns fs n f')) := by
        show (match env[i]? with | some o => env.set i (o.putFld n f') | none => env) = _
        rw [ho]
        rfl
      rw [pe]
      obtain ⟨p2, o2, e2, s2, _, _⟩ := FlR.root (rr j' f v b' a') w
      rw [e1] at e2
      cases e2
      have ej : j' = j := t2 j' j p s2 s
      subst ej
      refine ⟨slots h'.nt sp1 ⟨.ref p', hp, p', _, vs, T, rfl, sp, sd, ?_, ?_, by rw [setFld_len]; exact z, by rw [setFld_len]; exact z', fun k f u hf hu => ?_, t1, t2⟩, Go.upd h'.nt ⟨i, sp1⟩⟩
      · rw [upd_ne (t1 j' p s).2.1.symm]; exact hh
      · rw [upd_ne (t1 j' p s).2.2.symm]; exact d
      · rw [sf] at hf
        rcases set_at hf with ⟨rfl, rfl, _⟩ | ⟨ne, hf⟩
        · rw [a] at hu
          cases hu
          rw [e1]
          exact FlR.of_root s upd_same h'
        · exact FlR.go (Same.refl F) (fun q u t e => by rw [upd_ne (fun z => ne (t2 k j' p (by rw [← z]; exact t) s))]; exact e) (rr k f u hf hu)
end

/-! ## statements -/
/-- an error that is let out: its class, its attributes -/
structure Ev where
  c : Nat
  xs : List A
/-- the attributes of the program's errors -/
def eF : Nat → List Str
  | 0 => ["size"] | 1 => ["index"] | 2 => ["word"] | 3 => ["first", "second"] | 4 => ["count"] | 5 => ["part"] | 6 => ["letter"] | 7 => ["letter", "place"] | 8 => ["limit"] | 9 => ["place"]
  | 10 => ["word"] | 11 => ["number"] | 12 => ["place"] | 13 => ["limit"] | 14 => ["first", "second"] | 17 => ["index"] | 18 => ["line"] | _ => []
/-- its dict, if it has attributes -/
def EdAt (H : Hp) (S : Addr → Prop) (c : Nat) (vs : List V) (d : Option Addr) : Prop := (eF c = [] ∧ d = none) ∨ ∃ dd, d = some dd ∧ S dd ∧ H dd = some (.xd ((eF c).zip vs).reverse)
/-- it stands so; the classes of errors: from 100 on -/
def ErrAt (cl : Nat → Addr) (F H : Hp) (S : Addr → Prop) (e : Ev) (cls : Value) (d : Option Addr) : Prop := cls = .ref (cl (100 + e.c)) ∧ ∃ vs, EdAt H S e.c vs d ∧ RpL cl F e.xs vs ∧ e.xs.length = (eF e.c).length
inductive Fo where
  | nx | bk | ct | rt (o : O) | er (e : Ev)
abbrev GS := Env → Option (Fo × Env)
def Fin (cl : Nat → Addr) (kp : List Nat) (Eh : XK) (τ : L2.St) (F H : Hp) (U0 : Addr → Prop) (env' : Env) (D : Ends) : Fo → Prop
  | .nx => ∀ F' H' fp' σ', Rs cl kp τ F' H' fp' env' σ' → Go F H U0 F' H' (U fp') → D.nx σ' H'
  | .bk => ∀ F' H' fp' σ', Rs cl kp τ F' H' fp' env' σ' → Go F H U0 F' H' (U fp') → D.bk σ' H'
  | .ct => ∀ F' H' fp' σ', Rs cl kp τ F' H' fp' env' σ' → Go F H U0 F' H' (U fp') → D.ct σ' H'
  | .rt o => ∀ F' H' fp' σ' S v, Rs cl kp τ F' H' fp' env' σ' → Go F H U0 F' H' (fun p => U fp' p ∨ S p) → OR cl F' H' S o v → (∀ p, S p → F' p = none ∧ Nt H' p ∧ ¬ U fp' p) → D.rt v H'
  | .er e => ∀ F' H' fp' σ' S cls d, Rs cl kp τ F' H' fp' env' σ' → Go F H U0 F' H' (fun p => U fp' p ∨ S p) → ErrAt cl F' H' S e cls d → (∀ p, S p → F' p = none ∧ Nt H' p ∧ ¬ U fp' p) → Eh cls d H'
def SS (cl : Nat → Addr) (kp : List Nat) (Eh : XK) (t : TS) (g : GS) : Prop :=
  ∀ ⦃τ : L2.St⦄ ⦃F H : Hp⦄ ⦃fp : Nat → Addr → Prop⦄ ⦃env : Env⦄ ⦃σ : L2.St⦄ ⦃D : Ends⦄ ⦃f : Fo⦄ ⦃env' : Env⦄, Rs cl kp τ F H fp env σ → g env = some (f, env') → Fin cl kp Eh τ F H (U fp) env' D f → t D σ H
theorem wipe_idx {σ : L2.St} : ∀ {vs : List Nat} {i : Nat}, (L2.wipe σ vs)[i]? = if i ∈ vs then (σ[i]?.map fun _ => none) else σ[i]?
  | [], i => by simp [L2.wipe]
  | v :: vs, i => by
    show ((L2.wipe σ vs).set v none)[i]? = _
    by_cases e : v = i
    · subst e
      rw [if_pos List.mem_cons_self]
      by_cases hl : v < σ.length
      · rw [List.getElem?_set_self (by rw [wipe_length]; exact hl), List.getElem?_eq_getElem hl]; rfl
      · rw [List.getElem?_eq_none (by rw [List.length_set, wipe_length]; omega), List.getElem?_eq_none (by omega)]; rfl
    · rw [List.getElem?_set_ne e, wipe_idx]
      by_cases m : i ∈ vs
      · rw [if_pos m, if_pos (List.mem_cons_of_mem _ m)]
      · rw [if_neg m, if_neg (fun z => (List.mem_cons.mp z).elim (fun q => e q.symm) m)]
theorem wipe_set {v : Option V} {vs : List Nat} {i : Nat} {σ : L2.St} (h : i ∈ vs) : L2.wipe (σ.set i v) vs = L2.wipe σ vs := by
  refine List.ext_getElem? fun j => ?_
  rw [wipe_idx, wipe_idx]
  by_cases m : j ∈ vs
  · rw [if_pos m, if_pos m]
    by_cases e : i = j
    · subst e
      by_cases hl : i < σ.length
      · rw [List.getElem?_set_self hl, List.getElem?_eq_getElem hl]; rfl
      · rw [List.getElem?_eq_none (by rw [List.length_set]; omega), List.getElem?_eq_none (by omega)]
    · rw [List.getElem?_set_ne e]
  · rw [if_neg m, if_neg m, List.getElem?_set_ne (fun e => m (by rw [← e]; exact h))]
def SG (cl : Nat → Addr) (kp : List Nat) (ts : List Nat) (t : TG) (h : A → Env → Option Env) : Prop :=
  ∀ ⦃τ : L2.St⦄ ⦃F H : Hp⦄ ⦃fp : Nat → Addr → Prop⦄ ⦃env : Env⦄ ⦃σ : L2.St⦄ ⦃Q : L2.St → Hp → Prop⦄ ⦃a : A⦄ ⦃v : V⦄ ⦃env' : Env⦄, Rs cl kp τ F H fp env σ → Rp cl F a v → h a env = some env' →
    (∀ σ' fp', Rs cl kp τ F H fp' env' σ' → (∀ p, U fp' p → U fp p) → (∀ vs, (∀ i ∈ ts, i ∈ vs) → L2.wipe σ' vs = L2.wipe σ vs) → Q σ' H) → t v σ H Q
section
variable {cl : Nat → Addr} {kp : List Nat} {τ σ : L2.St} {F F' H H' : Hp} {fp : Nat → Addr → Prop} {env : Env} {S : Addr → Prop} {Eh : XK}
theorem Fin.go {U0 U1 : Addr → Prop} {F1 H1 : Hp} {env' : Env} {D : Ends} {f : Fo} (a : Go F H U0 F1 H1 U1) (h : Fin cl kp Eh τ F H U0 env' D f) : Fin cl kp Eh τ F1 H1 U1 env' D f := by
  cases f with
  | nx => exact fun F' H' fp' σ' I go => h F' H' fp' σ' I (a.trans go)
  | bk => exact fun F' H' fp' σ' I go => h F' H' fp' σ' I (a.trans go)
  | ct => exact fun F' H' fp' σ' I go => h F' H' fp' σ' I (a.trans go)
  | rt o => exact fun F' H' fp' σ' S v I go => h F' H' fp' σ' S v I (a.trans go)
  | er e => exact fun F' H' fp' σ' S cls d I go => h F' H' fp' σ' S cls d I (a.trans go)
def gSkip : GS := fun env => some (.nx, env)
theorem ss_nil : SS cl kp Eh tNext gSkip := by
  intro τ F H fp env σ D f env' I e k
  cases e
  exact k F H fp σ I Go.refl
def gSeq (g h : GS) : GS := fun env => (g env).bind fun p => match p.1 with
  | .nx => h p.2
  | f => some (f, p.2)
theorem ss_seq {t u : TS} {g h : GS} (a : SS cl kp Eh t g) (b : SS cl kp Eh u h) : SS cl kp Eh (tSeq t u) (gSeq g h) := by
  intro τ F H fp env σ D f env' I e k
  obtain ⟨⟨f1, e1⟩, h1, e⟩ := Option.bind_eq_some_iff.mp e
  refine a I h1 ?_
  cases f1 with
  | nx => exact fun F1 H1 fp1 σ1 I1 go1 => b I1 e (k.go go1)
  | bk => cases e; exact k
  | ct => cases e; exact k
  | rt o => cases e; exact k
  | er x => cases e; exact k
def gBrk : GS := fun env => some (.bk, env)
def gCnt : GS := fun env => some (.ct, env)
def gNever : GS := fun _ => none
theorem ss_never : SS cl kp Eh tNever gNever := by
  intro τ F H fp env σ D f env' I e k
  cases e
def gDo (g : G) : GS := fun env => (g env).map fun p => (.nx, p.2)
theorem ss_expr {pu : Bool} {t : TE} {g : G} (h : SE cl kp pu t g) : SS cl kp Eh (tDrop t) (gDo g) := by
  intro τ F H fp env σ D f env' I e k
  obtain ⟨⟨r, e1⟩, h1, z⟩ := Option.map_eq_some_iff.mp e
  cases z
  exact h I h1 fun F1 H1 fp1 S v I1 go rr _ => k F1 H1 fp1 σ I1 (go.mono fun p z => .inl z)
/-- a slot gets a new thing -/
theorem Rs.put (I : Rs cl kp τ F H fp env σ) {i : Nat} (hi : i ∉ kp) {o : O} {v : V} (h : OR cl F H S o v) (n : ∀ p, S p → F p = none ∧ Nt H p ∧ ¬ U fp p) :
    Rs cl kp τ F H (fun j p => if j = i then S p else fp j p) (env.set i o) (σ.set i (some v)) := by
  refine ⟨by rw [List.length_set, List.length_set]; exact I.len, fun j x hx => ?_, fun j k p a b => ?_, fun j p a => ?_, fun j p a => ?_, I.le, fun j hj => ?_, by rw [List.length_set]; exact I.tl⟩
  · rcases set_at hx with ⟨rfl, rfl, hl⟩ | ⟨ne, hx⟩
    · exact .inr ⟨v, List.getElem?_set_self (by rw [← I.len]; exact hl), OR.sub (fun p s => by rw [if_pos rfl]; exact s) h⟩
    · rw [List.getElem?_set_ne (fun z => ne z.symm)]
      exact (I.slot j x hx).imp id fun ⟨v, a, b⟩ => ⟨v, a, OR.sub (fun p s => by rw [if_neg ne]; exact s) b⟩
  · have a : if j = i then S p else fp j p := a
    have b : if k = i then S p else fp k p := b
    by_cases c1 : j = i <;> by_cases c2 : k = i
    · exact c1.trans c2.symm
    · rw [if_pos c1] at a; rw [if_neg c2] at b; exact ((n p a).2.2 ⟨k, b⟩).elim
    · rw [if_neg c1] at a; rw [if_pos c2] at b; exact ((n p b).2.2 ⟨j, a⟩).elim
    · rw [if_neg c1] at a; rw [if_neg c2] at b; exact I.dis j k p a b
  · have a : if j = i then S p else fp j p := a
    by_cases c : j = i
    · rw [if_pos c] at a; exact (n p a).1
    · rw [if_neg c] at a; exact I.sep j p a
  · have a : if j = i then S p else fp j p := a
    by_cases c : j = i
    · rw [if_pos c] at a; exact (n p a).2.1
    · rw [if_neg c] at a; exact I.dom j p a
  · rw [List.getElem?_set_ne (fun z => hi (by rw [z]; exact hj))]
    exact I.pro j hj
theorem Rs.putF (I : Rs cl kp τ F H fp env σ) {i : Nat} (hi : i ∉ kp) {a : A} {v : V} (h : Rp cl F a v) :
    Rs cl kp τ F H (fun j p => if j = i then False else fp j p) (env.set i (.fl (.fz a))) (σ.set i (some v)) := I.put (S := fun _ => False) hi (o := .fl (.fz a)) h fun p z => z.elim
theorem offSub {i : Nat} (p : Addr) (h : U (fun j p => if j = i then False else fp j p) p) : U fp p := by
  obtain ⟨j, h⟩ := h
  have h : if j = i then False else fp j p := h
  by_cases c : j = i
  · rw [if_pos c] at h; exact h.elim
  · rw [if_neg c] at h; exact ⟨j, h⟩
def gAsg (i : Nat) (g : G) : GS := fun env => (g env).bind fun p => match p.1 with
  | .ow o => some (.nx, p.2.set i o)
  | r => (r.settle false p.2).map fun q => (.nx, q.2.set i (.fl (.fz q.1)))
theorem ss_asg {pu : Bool} {i : Nat} {t : TE} {g : G} (hi : i ∉ kp) (h : SE cl kp pu t g) : SS cl kp Eh (tAsg t (gName i)) (gAsg i g) := by
  intro τ F H fp env σ D f env' I e k
  obtain ⟨⟨r, e1⟩, h1, e⟩ := Option.bind_eq_some_iff.mp e
  refine h I h1 fun F1 H1 fp1 S v I1 go rr _ => ?_
  have go' := go.mono (V' := U fp1) fun p z => .inl z
  show D.nx (σ.set i (some v)) H1
  cases r with
  | ow o =>
    cases e
    refine k F1 H1 _ _ (I1.put hi rr.1 rr.2) (go.mono fun p ⟨j, z⟩ => ?_)
    simp only at z
    by_cases c : j = i
    · rw [if_pos c] at z; exact .inr z
    · rw [if_neg c] at z; exact .inl ⟨j, z⟩
  | fz a =>
    cases e
    exact k F1 H1 _ _ (I1.putF hi rr) (go'.mono offSub)
  | pf j n => cases e
  | pl j =>
    obtain ⟨⟨a, e2⟩, h2, z⟩ := Option.map_eq_some_iff.mp e
    cases z
    obtain ⟨o, ho, h2⟩ := Option.bind_eq_some_iff.mp (show (e1[j]?.bind fun o => o.vw.map fun a => (a, e1.set j (.fl (.fz a)))) = some (a, e2) from h2)
    obtain ⟨b, w, z⟩ := Option.map_eq_some_iff.mp h2
    cases z
    obtain ⟨I2, go2, rp⟩ := I1.freeze ho w rr
    exact k _ _ _ _ (I2.putF hi rp) ((go'.trans go2).mono offSub)
/-- return e -/
def gRet (np : Nat) (g : G) : GS := fun env => (g env).bind fun p => match p.1 with
  | .ow o => some (.rt o, p.2)
  | .fz a => some (.rt (.fl (.fz a)), p.2)
  | .pl i => if i < np then none else p.2[i]?.map fun o => (.rt o, p.2.set i .un)
  | .pf _ _ => none
theorem ss_ret {pu : Bool} {np : Nat} {t : TE} {g : G} (h : SE cl kp pu t g) : SS cl kp Eh (tRet t) (gRet np g) := by
  intro τ F H fp env σ D f env' I e k
  obtain ⟨⟨r, e1⟩, h1, e⟩ := Option.bind_eq_some_iff.mp e
  refine h I h1 fun F1 H1 fp1 S v I1 go rr _ => ?_
  have go' := go.mono (V' := U fp1) fun p z => .inl z
  cases r with
  | ow o => cases e; exact k F1 H1 fp1 σ S v I1 go rr.1 rr.2
  | fz a => cases e; exact k F1 H1 fp1 σ (fun _ => False) v I1 (go'.mono fun p z => z.elim id False.elim) rr fun p z => z.elim
  | pf j n => cases e
  | pl i =>
    by_cases c : i < np
    · simp only [if_pos c] at e; cases e
    · simp only [if_neg c] at e
      obtain ⟨o, ho, z⟩ := Option.map_eq_some_iff.mp e
      cases z
      rcases I1.slot i o ho with z | ⟨u, hu, q⟩
      · subst z
        refine k F1 H1 fp1 σ (fun _ => False) v ?_ (go'.mono fun p z => z.elim id False.elim) trivial fun p z => z.elim
        refine ⟨by rw [List.length_set]; exact I1.len, fun j x hx => ?_, I1.dis, I1.sep, I1.dom, I1.le, I1.pro, I1.tl⟩
        rcases set_at hx with ⟨rfl, rfl, _⟩ | ⟨ne, hx⟩
        · exact .inl rfl
        · exact I1.slot j x hx
      · have rr : σ[i]? = some (some v) := rr
        rw [rr] at hu
        cases hu
        refine k F1 H1 (fpOff fp1 i) σ (fp1 i) v ?_ (go'.mono fun p z => z.elim (fun ⟨j, h⟩ => ⟨j, h.2⟩) fun h => ⟨i, h⟩) q fun p h => ⟨I1.sep i p h, I1.dom i p h, fun ⟨j, h'⟩ => h'.1 (I1.dis j i p h'.2 h)⟩
        refine ⟨by rw [List.length_set]; exact I1.len, fun j x hx => ?_, fun j k p a b => I1.dis j k p a.2 b.2, fun j p a => I1.sep j p a.2, fun j p a => I1.dom j p a.2, I1.le, I1.pro, I1.tl⟩
        rcases set_at hx with ⟨rfl, rfl, _⟩ | ⟨ne, hx⟩
        · exact .inl rfl
        · exact (I1.slot j x hx).imp id fun ⟨v, a, b⟩ => ⟨v, a, OR.sub (fun p h => ⟨ne, h⟩) b⟩
def gRetN : GS := fun env => some (.rt (.fl (.fz .non)), env)
def gIfS (c : Env → Option (Bool × Env)) (g h : GS) : GS := fun env => (c env).bind fun p => if p.1 then g p.2 else h p.2
theorem ss_if {pc : Bool} {c : TT} {t u : TS} {gc : Env → Option (Bool × Env)} {g h : GS} (hc : ST cl kp pc c gc) (ha : SS cl kp Eh t g) (hb : SS cl kp Eh u h) : SS cl kp Eh (tIfS c t u) (gIfS gc g h) := by
  intro τ F H fp env σ D f env' I e k
  obtain ⟨⟨c, e1⟩, h1, e⟩ := Option.bind_eq_some_iff.mp e
  refine hc I h1 fun F1 H1 fp1 I1 go1 pu1 => ?_
  cases c with
  | true => exact ha I1 e (k.go go1)
  | false => exact hb I1 e (k.go go1)
/-! ### targets -/
def hName (i : Nat) : A → Env → Option Env := fun a env => some (env.set i (.fl (.fz a)))
theorem sg_name {i : Nat} (hi : i ∉ kp) : SG cl kp [i] (gName i) (hName i) := by
  intro τ F H fp env σ Q a v env' I r e k
  cases e
  exact k _ _ (I.putF hi r) offSub fun vs m => wipe_set (m i List.mem_cons_self)
def hNil : List A → Env → Option Env
  | [], env => some env
  | _, _ => none
def hCons (h : A → Env → Option Env) (hs : List A → Env → Option Env) : List A → Env → Option Env
  | a :: as, env => (h a env).bind (hs as)
  | _, _ => none
def hTup (n : Nat) (hs : List A → Env → Option Env) : A → Env → Option Env
  | .tup l, env => if l.length = n then hs l env else none
  | _, _ => none
/-- a, b = e -/
def gAsgT (h : A → Env → Option Env) (g : Env → Option (A × Env)) : GS := fun env => (g env).bind fun p => (h p.1 p.2).map fun e => (.nx, e)
/-! ### what is walked -/
/-- one turn: a known thing, a new tuple, a tuple that is taken in -/
def Turn (cl : Nat → Addr) (F H : Hp) (a : A) (x : V) (H' : Hp) : Prop := (H' = H ∧ Rp cl F a x) ∨ (∃ T vs l, a = .tup l ∧ x = .ref T ∧ H T = none ∧ H' = upd H T (.tup vs) ∧ RpL cl F l vs) ∨ (H' = H ∧ ∃ q vs l, a = .tup l ∧ x = .ref q ∧ H q = some (.tup vs) ∧ RpL cl F l vs)
def WalkD (cl : Nat → Addr) (F : Hp) (J : It) (xs : List A) : Prop := ∃ G Y, Walk J xs.length G Y ∧ (∀ H, Same F H → G H) ∧ ∀ (i : Nat) H x H', i < xs.length → Same F H → Y i H x H' → ∃ a, xs[i]? = some a ∧ Turn cl F H a x H'
def SI (cl : Nat → Addr) (kp : List Nat) (wi : TI) (g : Env → Option (List A × Env)) : Prop :=
  ∀ ⦃τ : L2.St⦄ ⦃F H : Hp⦄ ⦃fp : Nat → Addr → Prop⦄ ⦃env : Env⦄ ⦃σ : L2.St⦄ ⦃Q : It → Hp → Prop⦄ ⦃xs : List A⦄ ⦃env' : Env⦄, Rs cl kp τ F H fp env σ → g env = some (xs, env') →
    (∀ F' H' fp' J, Rs cl kp τ F' H' fp' env' σ → Go F H (U fp) F' H' (U fp') → WalkD cl F' J xs → Q J H') → wi σ H Q
/-- a tuple is taken in -/
theorem Rs.adopt (I : Rs cl kp τ F H fp env σ) {q : Addr} {vs : List V} {l : List A} (h : H q = some (.tup vs)) (r : RpL cl F l vs) : ∃ F1, Rs cl kp τ F1 H fp env σ ∧ Go F H (U fp) F1 H (U fp) ∧ Rp cl F1 (.tup l) (.ref q) := by
  cases e : F q with
  | some o =>
    have := I.le _ _ e
    rw [h] at this
    cases this
    exact ⟨F, I, Go.refl, q, vs, rfl, e, r⟩
  | none =>
    have le := same_new (o := .tup vs) e
    refine ⟨upd F q (.tup vs), ⟨I.len, fun i x hx => (I.slot i x hx).imp id fun ⟨v, a, b⟩ => ⟨v, a, OR.go le (fun _ _ _ z => z) b⟩, I.dis, fun i p hp => ?_, I.dom, fun p o e1 => ?_, I.pro, I.tl⟩, ⟨le, fun _ _ _ z => z, fun p a b => ?_, fun p hp => .inl hp, fun _ z => z, fun _ z => z⟩, q, vs, rfl, upd_same, RpL.same le r⟩
    · rw [upd_ne fun z => (I.dom i p hp).no (by rw [z]; exact h)]
      exact I.sep i p hp
    · by_cases c : p = q
      · rw [c, upd_same] at e1; rw [c, h]; exact e1
      · rw [upd_ne c] at e1; exact I.le _ _ e1
    · by_cases c : p = q
      · exact .inr (.inr ⟨vs, by rw [c]; exact h⟩)
      · rw [upd_ne c] at a; exact (a b).elim
/-- one turn's item -/
theorem turn_ok {F0 : Hp} {J : It} {xs : List A} (I : Rs cl kp τ F H fp env σ) (s : Same F0 F) {i : Nat} {x : V} {a : A} (ha : xs[i]? = some a) (h : Turn cl F0 H a x H') :
    ∃ F1, Rs cl kp τ F1 H' fp env σ ∧ Go F H (U fp) F1 H' (U fp) ∧ Rp cl F1 a x ∧ Same H H' := by
  rcases h with ⟨rfl, r⟩ | ⟨T, vs, l, rfl, rfl, n, rfl, r⟩ | ⟨rfl, q, vs, l, rfl, rfl, h, r⟩
  · exact ⟨F, I, Go.refl, Rp.same s r, Same.refl _⟩
  · exact ⟨_, I.laidF n, Go.laidF I.le n, ⟨T, vs, rfl, upd_same, RpL.same (s.trans (same_new (fnone I.le n))) r⟩, same_new n⟩
  · obtain ⟨F1, a, b, c⟩ := I.adopt h (RpL.same s r)
    exact ⟨F1, a, b, c, Same.refl _⟩
def loopG (h : A → Env → Option Env) (b : GS) : List A → GS
  | [], env => some (.nx, env)
  | x :: xs, env => (h x env).bind fun e1 => (b e1).bind fun p => match p.1 with
    | .nx => loopG h b xs p.2
    | .ct => loopG h b xs p.2
    | .bk => some (.nx, p.2)
    | .rt o => some (.rt o, p.2)
    | .er x => some (.er x, p.2)
def gFor (it : Env → Option (List A × Env)) (h : A → Env → Option Env) (b : GS) : GS := fun env => (it env).bind fun p => loopG h b p.1 p.2
/-- a known walk -/
def iK (J : It) : TI := fun _ H R => R J H
theorem for_core {ts : List Nat} {tg : TG} {tb : TS} {h : A → Env → Option Env} {b : GS} (hg : SG cl kp ts tg h) (hb : SS cl kp Eh tb b) {F1 H1 : Hp} {fp1 : Nat → Addr → Prop} {e1 env' : Env} {J : It} {xs : List A} {f : Fo} {D : Ends} (I1 : Rs cl kp τ F1 H1 fp1 e1 σ)
    (wk : WalkD cl F1 J xs) (e : loopG h b xs e1 = some (f, env')) (k : Fin cl kp Eh τ F1 H1 (U fp1) env' D f) : tFor (iK J) tg tb D σ H1 := by
  obtain ⟨G, Y, w, wG, wY⟩ := wk
  refine for_it w (fun i σ' H' => ∃ F' fp' ei, Rs cl kp τ F' H' fp' ei σ' ∧ Go F1 H1 (U fp1) F' H' (U fp') ∧ loopG h b (xs.drop i) ei = some (f, env')) ⟨F1, fp1, e1, I1, Go.refl, e⟩ ?_ ?_ ?_
  · rintro i σ' H' _ ⟨F', fp', ei, I', go', _⟩
    exact wG H' (go'.sF.trans I'.le)
  · rintro i x σ' H' H2 hi' ⟨F', fp', ei, I', go', le⟩ y
    obtain ⟨a, ha, hx⟩ := wY i H' x H2 hi' (go'.sF.trans I'.le) y
    obtain ⟨F2, I2, go2, r2, _⟩ := turn_ok (J := J) I' go'.sF ha hx
    have go2 := go'.trans go2
    have hd : xs.drop i = a :: xs.drop (i + 1) := by
      rw [List.drop_eq_getElem_cons hi']
      congr 1
      exact Option.some.inj ((List.getElem?_eq_getElem hi').symm.trans ha)
    rw [hd] at le
    obtain ⟨e2, he2, le⟩ := Option.bind_eq_some_iff.mp (show ((h a ei).bind fun e1 => (b e1).bind fun p => match p.1 with
      | .nx => loopG h b (xs.drop (i + 1)) p.2
      | .ct => loopG h b (xs.drop (i + 1)) p.2
      | .bk => some (.nx, p.2)
      | .rt o => some (.rt o, p.2)
      | .er x => some (.er x, p.2)) = some (f, env') from le)
    obtain ⟨⟨f3, e3⟩, he3, le⟩ := Option.bind_eq_some_iff.mp le
    refine hg I2 r2 he2 fun σ3 fp3 I3 s3 _ => ?_
    have go3 := go2.mono s3
    refine hb I3 he3 ?_
    cases f3 with
    | nx => exact fun F4 H4 fp4 σ4 I4 go4 => ⟨F4, fp4, e3, I4, go3.trans go4, le⟩
    | ct => exact fun F4 H4 fp4 σ4 I4 go4 => ⟨F4, fp4, e3, I4, go3.trans go4, le⟩
    | bk => cases le; exact fun F4 H4 fp4 σ4 I4 go4 => k F4 H4 fp4 σ4 I4 (go3.trans go4)
    | rt o => cases le; exact fun F4 H4 fp4 σ4 S v I4 go4 => k F4 H4 fp4 σ4 S v I4 (go3.trans go4)
    | er x => cases le; exact fun F4 H4 fp4 σ4 S cls d I4 go4 => k F4 H4 fp4 σ4 S cls d I4 (go3.trans go4)
  · rintro σ' H' ⟨F', fp', ei, I', go', le⟩
    rw [List.drop_length] at le
    cases le
    exact k F' H' fp' σ' I' go'
theorem ss_for {ts : List Nat} {wi : TI} {tg : TG} {tb : TS} {it : Env → Option (List A × Env)} {h : A → Env → Option Env} {b : GS} (hi : SI cl kp wi it) (hg : SG cl kp ts tg h) (hb : SS cl kp Eh tb b) : SS cl kp Eh (tFor wi tg tb) (gFor it h b) := by
  intro τ F H fp env σ D f env' I e k
  obtain ⟨⟨xs, e1⟩, h1, e⟩ := Option.bind_eq_some_iff.mp e
  exact hi I h1 fun F1 H1 fp1 J I1 go1 wk => for_core hg hb I1 wk e (k.go go1)
/-! ### while -/
end
end Dl
namespace Dl
open PySem PySem.Spec L2

/-! ## what is walked -/
def rg1 (j : Int) : List A := (List.range j.toNat).map fun i => A.int (i : Nat)
def rg2 (i j : Int) : List A := (List.range (j - i).toNat).map fun k => A.int (i + (k : Nat))
def enumA (xs : List A) : List A := xs.zipIdx.map fun p => .tup [.int (p.2 : Nat), p.1]
def zipA (xs ys : List A) : List A := (xs.zip ys).map fun p => .tup [p.1, p.2]
def strA (z : Str) : List A := z.cps.toList.map fun c => .str ⟨#[c]⟩
def gItL (g : Env → Option (A × Env)) : Env → Option (List A × Env) := fun env => (g env).bind fun p => p.1.lsts.map fun xs => (xs, p.2)
def A.tups : A → Option (List A)
  | .tup xs => some xs | _ => none
def gItT (g : Env → Option (A × Env)) : Env → Option (List A × Env) := fun env => (g env).bind fun p => p.1.tups.map fun xs => (xs, p.2)
def A.int? : A → Option Int
  | .int i => some i | _ => none
def A.str? : A → Option Str
  | .str i => some i | _ => none
def gItR1 (g : G) : Env → Option (List A × Env) := fun env => (gOne g env).bind fun p => p.1.int?.bind fun j => if -(2 ^ 62) ≤ j ∧ j < 2 ^ 62 then some (rg1 j, p.2) else none
def gItR2 (pb : Bool) (g h : G) : Env → Option (List A × Env) := fun env => (gTwo pb g h env).bind fun p => p.1.int?.bind fun i => p.2.1.int?.bind fun j => if -(2 ^ 62) ≤ i ∧ i < 2 ^ 62 ∧ -(2 ^ 62) ≤ j ∧ j < 2 ^ 62 then some (rg2 i j, p.2.2) else none
def gItS (g : G) : Env → Option (List A × Env) := fun env => (gOne g env).bind fun p => p.1.str?.map fun z => (strA z, p.2)
def gItE (g : Env → Option (A × Env)) : Env → Option (List A × Env) := fun env => (g env).bind fun p => p.1.lsts.map fun xs => (enumA xs, p.2)
def gItET (g : Env → Option (A × Env)) : Env → Option (List A × Env) := fun env => (g env).bind fun p => p.1.tups.map fun xs => (enumA xs, p.2)
def gItZ (g h : Env → Option (A × Env)) : Env → Option (List A × Env) := fun env => (g env).bind fun p => (h p.2).bind fun q => p.1.lsts.bind fun xs => q.1.lsts.map fun ys => (zipA xs ys, q.2)
section
variable {cl : Nat → Addr} {kp : List Nat} {τ σ : L2.St} {F F' H H' : Hp} {fp : Nat → Addr → Prop} {env : Env} {S : Addr → Prop} {K : PySem.W.Frag}
theorem int?_inv {a : A} {i : Int} (e : a.int? = some i) : a = .int i := by cases a <;> cases e <;> rfl
theorem str?_inv {a : A} {i : Str} (e : a.str? = some i) : a = .str i := by cases a <;> cases e <;> rfl
theorem si_range1 {pu : Bool} {t : TE} {g : G} (h : SE cl kp pu t g) : SI cl kp (iRng1 (tCons t tNil)) (gItR1 g) := by
  intro τ F H fp env σ Q xs env' I e k
  obtain ⟨⟨a, e1⟩, h1, e⟩ := Option.bind_eq_some_iff.mp e
  obtain ⟨j, hj, e⟩ := Option.bind_eq_some_iff.mp e
  split at e
  · rename_i c
    cases e
    refine se_one (W := fun x H1 => ∃ j : Int, [x] = [V.int j] ∧ -(2 ^ 62) ≤ j ∧ j < 2 ^ 62 ∧ Q (Itr 0 j.toNat) H1) h I h1 fun F1 H1 fp1 v I1 go r _ => ?_
    cases int?_inv hj
    cases r
    refine ⟨j, rfl, c.1, c.2, k F1 H1 fp1 _ I1 go ⟨_, _, by rw [show (rg1 j).length = j.toNat by unfold rg1; simp]; exact walk_range, fun _ _ => trivial, ?_⟩⟩
    rintro i H x H' hi _ ⟨e, hx⟩
    have hi : i < j.toNat := by unfold rg1 at hi; simpa using hi
    refine ⟨.int (i : Nat), by unfold rg1; rw [List.getElem?_map, List.getElem?_range hi]; rfl, .inl ⟨e, ?_⟩⟩
    rw [hx]
    show V.int (0 + (i : Int)) = V.int i
    rw [Int.zero_add]
  · cases e
/-! ## comprehensions -/
def wipeE (env : Env) : List Nat → Env
  | [] => env
  | v :: vs => (wipeE env vs).set v .un
/-- the slots of the block as they were -/
def backE (e0 e : Env) : List Nat → Env
  | [] => e
  | v :: vs => match e0[v]? with
    | some o => (backE e0 e vs).set v o
    | none => backE e0 e vs
def offE (env : Env) (vs : List Nat) : Bool := vs.all fun v => match env[v]? with
  | some .un => true
  | some (.fl (.fz _)) => true
  | none => true
  | _ => false
theorem wipeE_len : ∀ (env : Env) (vs : List Nat), (wipeE env vs).length = env.length
  | _, [] => rfl
  | env, v :: vs => by unfold wipeE; rw [List.length_set, wipeE_len env vs]
theorem wipeE_at : ∀ {env : Env} {vs : List Nat} {i : Nat} {o : O}, (wipeE env vs)[i]? = some o → o = .un ∨ (i ∉ vs ∧ env[i]? = some o)
  | _, [], _, _, h => .inr ⟨List.not_mem_nil, h⟩
  | env, v :: vs, i, o, h => by
    rcases set_at h with ⟨rfl, rfl, _⟩ | ⟨ne, h⟩
    · exact .inl rfl
    · rcases wipeE_at h with z | ⟨z, h⟩
      · exact .inl z
      · exact .inr ⟨fun m => (List.mem_cons.mp m).elim ne z, h⟩
theorem Rs.wipe (I : Rs cl kp τ F H fp env σ) {vs : List Nat} (hk : ∀ i ∈ kp, i ∉ vs) : Rs cl kp τ F H fp (wipeE env vs) (L2.wipe σ vs) := by
  refine ⟨by rw [wipeE_len, wipe_length]; exact I.len, fun i o h => ?_, I.dis, I.sep, I.dom, I.le, fun i hi => ?_, by rw [wipe_length]; exact I.tl⟩
  · rcases wipeE_at h with rfl | ⟨ni, h⟩
    · exact .inl rfl
    · rw [wipe_out ni]; exact I.slot i o h
  · rw [wipe_out (hk i hi)]; exact I.pro i hi
theorem backE_len (e0 e : Env) : ∀ vs : List Nat, (backE e0 e vs).length = e.length
  | [] => rfl
  | v :: vs => by
    unfold backE
    split
    · rw [List.length_set]; exact backE_len e0 e vs
    · exact backE_len e0 e vs
theorem backE_at (e0 e : Env) : ∀ {vs : List Nat} {i : Nat} {o : O}, (backE e0 e vs)[i]? = some o → (i ∈ vs ∧ e0[i]? = some o) ∨ (e[i]? = some o ∧ (i ∈ vs → e0[i]? = none))
  | [], i, o, h => .inr ⟨h, fun z => nomatch z⟩
  | v :: vs, i, o, h => by
    unfold backE at h
    split at h
    · rename_i o' ho
      rcases set_at h with ⟨rfl, rfl, _⟩ | ⟨ne, h⟩
      · exact .inl ⟨List.mem_cons_self, ho⟩
      · rcases backE_at e0 e h with ⟨a, b⟩ | ⟨a, b⟩
        · exact .inl ⟨List.mem_cons_of_mem _ a, b⟩
        · exact .inr ⟨a, fun m => (List.mem_cons.mp m).elim (fun z => (ne z).elim) b⟩
    · rename_i hn
      rcases backE_at e0 e h with ⟨a, b⟩ | ⟨a, b⟩
      · exact .inl ⟨List.mem_cons_of_mem _ a, b⟩
      · exact .inr ⟨a, fun m => (List.mem_cons.mp m).elim (fun z => by rw [z]; exact hn) b⟩
/-- behind the block -/
theorem Rs.back {F0 H0 : Hp} {fp0 : Nat → Addr → Prop} {e0 : Env} {vs : List Nat} (I0 : Rs cl kp τ F0 H0 fp0 e0 σ) (off : offE e0 vs = true) (I : Rs cl kp τ F H fp env (L2.wipe σ vs)) (s : Same F0 F) : Rs cl kp τ F H fp (backE e0 env vs) σ := by
  have ln : env.length = e0.length := by rw [I.len, wipe_length, I0.len]
  refine ⟨by rw [backE_len, ln]; exact I0.len, fun i o h => ?_, I.dis, I.sep, I.dom, I.le, I0.pro, I0.tl⟩
  rcases backE_at e0 env h with ⟨m, h⟩ | ⟨h, nm⟩
  · have := List.all_eq_true.mp off i m
    rw [h] at this
    cases o with
    | un => exact .inl rfl
    | ins c ns fs => cases this
    | fl f =>
      cases f with
      | fz a => exact (I0.slot i _ h).imp id fun ⟨v, a, b⟩ => ⟨v, a, Rp.same s b⟩
      | _ => cases this
  · have : i ∉ vs := fun m => by
      have h1 := List.getElem?_eq_none_iff.mp (nm m)
      have h2 := (List.getElem?_eq_some_iff.mp h).1
      omega
    rw [← wipe_out this]
    exact I.slot i o h
/-- a cell apart from all that is known -/
theorem Rs.apart (I : Rs cl kp τ F H fp env σ) {D : Addr} {o : HO} (ho : HOtup o = false) (nU : ¬ U fp D) (nF : F D = none) : Rs cl kp τ F (upd H D o) fp env σ := by
  refine ⟨I.len, fun i x e => (I.slot i x e).imp id fun ⟨v, a, b⟩ => ⟨v, a, OR.go (Same.refl F) (fun q u h e => by rw [upd_ne (fun z => nU ⟨i, by rw [← z]; exact h⟩)]; exact e) b⟩, I.dis, I.sep, fun i q h => nt_upd ho (I.dom i q h), fun q u e => ?_, I.pro, I.tl⟩
  rw [upd_ne (fun z => by rw [z, nF] at e; cases e)]
  exact I.le _ _ e
/-- .. stays so -/
structure Apart (D : Addr) (F H : Hp) (fp : Nat → Addr → Prop) : Prop where
  nU : ¬ U fp D
  nF : F D = none
theorem Apart.go {D : Addr} {o : HO} {fp' : Nat → Addr → Prop} (a : Apart D F H fp) (h : H D = some o) (ho : HOtup o = false) (g : Go F H (U fp) F' H' (U fp')) : Apart D F' H' fp' ∧ H' D = some o := by
  refine ⟨⟨fun z => ?_, ?_⟩, g.keep _ _ a.nU h⟩
  · rcases g.fpn D z with z | z
    · exact a.nU z
    · rw [h] at z; cases z
  · cases e : F' D with
    | none => rfl
    | some u =>
      rcases g.new D (by rw [e]; exact fun z => nomatch z) a.nF with z | z | ⟨vs, z⟩
      · rw [h] at z; cases z
      · exact (a.nU z).elim
      · rw [h] at z; cases z; cases ho
theorem Go.apart {D : Addr} {o : HO} (ho : HOtup o = false) {fp0 : Nat → Addr → Prop} {F0 H0 : Hp} (g : Go F0 H0 (fun p => U fp0 p ∨ p = D) F H (fun p => U fp p ∨ p = D)) : Go F0 H0 (fun p => U fp0 p ∨ p = D) F (L2.upd H D o) (fun p => U fp p ∨ p = D) :=
  g.trans ⟨Same.refl F, fun p u n e => by rw [upd_ne (fun z => n (.inr z))]; exact e, fun p a e => (a e).elim, fun p h => .inl h, fun p h => dom_upd h, fun p h => nt_upd ho h⟩
theorem Go.join {D : Addr} {fp' : Nat → Addr → Prop} (g : Go F H (U fp) F' H' (U fp')) (dD : H D ≠ none) : Go F H (fun p => U fp p ∨ p = D) F' H' (fun p => U fp' p ∨ p = D) :=
  ⟨g.sF, fun p u n e => g.keep p u (fun z => n (.inl z)) e, fun p a e => (g.new p a e).imp id (Or.imp .inl id), fun p h => h.elim (fun z => (g.fpn p z).imp .inl id) fun z => .inl (.inr z), g.dom, g.ntd⟩
def gYes : Env → Option (Bool × Env) := fun env => some (true, env)
end
end Dl
namespace Dl
open PySem PySem.Spec L2

/-! ## defs -/
abbrev GF := List O → Option (O × List O)
def spD (cl : Nat → Addr) (f : GF) : Sp := fun vs H Q _ => ∃ F fp os res os', Rs cl [] (vs.map some) F H fp os (vs.map some) ∧ f os = some (res, os') ∧
  ∀ F' H' fp' S v, Rs cl [] (vs.map some) F' H' fp' os' (vs.map some) → Go F H (U fp) F' H' (fun p => U fp' p ∨ S p) → OR cl F' H' S res v → (∀ p, S p → F' p = none ∧ Nt H' p ∧ ¬ U fp' p) → Q v H'
/-- the parameters behind the call: those at ra are names that were stored -/
def finO (ra : List Nat) : Nat → List O → Env → List O
  | k, o :: os, e :: env => (if ra.contains k then o else e) :: finO ra (k + 1) os env
  | _, _, _ => []
def O.fzn : O → Bool
  | .fl (.fz _) => true | _ => false
def okRa (ra : List Nat) (os : List O) : Bool := ra.all fun i => match os[i]? with
  | some o => o.fzn
  | none => false
def fnD (ra : List Nat) (n m : Nat) (body : GS) : GF := fun os =>
  if os.length = n ∧ okRa ra os = true then (body (os ++ List.replicate m .un)).bind fun p => match p.1 with
    | .rt o => some (o, finO ra 0 os p.2)
    | .nx => some (.fl (.fz .non), finO ra 0 os p.2)
    | _ => none
  else none
section
variable {cl : Nat → Addr} {kp : List Nat} {τ σ : L2.St} {F F' H H' : Hp} {fp : Nat → Addr → Prop} {env : Env} {S : Addr → Prop} {Eh : XK}
theorem finO_at {ra : List Nat} : ∀ {os : List O} {env : Env} {k i : Nat} {o : O}, os.length ≤ env.length → (finO ra k os env)[i]? = some o → (ra.contains (k + i) = true ∧ os[i]? = some o) ∨ (ra.contains (k + i) = false ∧ env[i]? = some o ∧ i < os.length)
  | [], _, _, _, _, _, h => by simp [finO] at h
  | _ :: _, [], _, _, _, l, _ => by simp at l
  | o :: os, e :: env, k, 0, x, _, h => by
    simp only [finO, List.getElem?_cons_zero, Option.some.injEq] at h
    by_cases c : ra.contains k = true
    · rw [if_pos c] at h; exact .inl ⟨c, by rw [h]; rfl⟩
    · rw [if_neg c] at h; exact .inr ⟨by simpa using c, by rw [h]; rfl, by simp⟩
  | o :: os, e :: env, k, i + 1, x, l, h => by
    simp only [finO, List.getElem?_cons_succ] at h
    rcases finO_at (by simpa using l) h with ⟨a, b⟩ | ⟨a, b, c⟩
    · exact .inl ⟨by rw [← a]; congr 1; omega, by simpa using b⟩
    · exact .inr ⟨by rw [← a]; congr 1; omega, by simpa using b, by simp; omega⟩
theorem finO_len {ra : List Nat} : ∀ {os : List O} {env : Env} {k : Nat}, os.length ≤ env.length → (finO ra k os env).length = os.length
  | [], _, _, _ => rfl
  | _ :: _, [], _, l => by simp at l
  | o :: os, e :: env, k, l => by
    simp only [finO, List.length_cons]
    rw [finO_len (by simpa using l)]
theorem start_at {N : List Str} {vs : List V} {i : Nat} (h : vs.length ≤ N.length) (hi : i < vs.length) : (L2.start N vs)[i]? = (vs.map some)[i]? := by
  unfold L2.start
  rw [List.getElem?_append_left (by simpa using hi)]
/-- a def by its body -/
theorem Rs.start {N : List Str} {vs : List V} {os : List O} (I : Rs cl [] (vs.map some) F H fp os (vs.map some)) (m : Nat) (hm : N.length = vs.length + m) (kp : List Nat) :
    Rs cl kp (L2.start N vs) F H (fun i p => i < vs.length ∧ fp i p) (os ++ List.replicate m .un) (L2.start N vs) := by
  have ln : os.length = vs.length := by have := I.len; simpa using this
  refine ⟨?_, fun i o h => ?_, fun i j p a b => I.dis i j p a.2 b.2, fun i p a => I.sep i p a.2, fun i p a => I.dom i p a.2, I.le, fun _ _ => rfl, rfl⟩
  · unfold L2.start
    simp only [List.length_append, List.length_replicate, List.length_map]
    omega
  · by_cases hi : i < vs.length
    · rw [List.getElem?_append_left (by omega)] at h
      rw [start_at (by omega) hi]
      exact (I.slot i o h).imp id fun ⟨v, a, b⟩ => ⟨v, a, OR.sub (fun p z => ⟨hi, z⟩) b⟩
    · rw [List.getElem?_append_right (by omega), List.getElem?_replicate] at h
      split at h
      · cases h; exact .inl rfl
      · cases h
theorem Rs.fin {N : List Str} {vs : List V} {os : List O} {ra : List Nat} {F0 H0 : Hp} {fp0 : Nat → Addr → Prop} (I0 : Rs cl [] (vs.map some) F0 H0 fp0 os (vs.map some)) (ok : okRa ra os = true) {kp : List Nat} (hk : ∀ i, i < vs.length → i ∉ ra → i ∈ kp) (hN : vs.length ≤ N.length)
    (I : Rs cl kp (L2.start N vs) F H fp env σ) (s : Same F0 F) : Rs cl [] (vs.map some) F H (fun i p => i < vs.length ∧ i ∉ ra ∧ fp i p) (finO ra 0 os env) (vs.map some) := by
  have ln : os.length = vs.length := by have := I0.len; simpa using this
  have le : os.length ≤ env.length := by
    rw [I.len, I.tl, ln]
    unfold L2.start
    simp
  refine ⟨by rw [finO_len le, List.length_map, ln], fun i o h => ?_, fun i j p a b => I.dis i j p a.2.2 b.2.2, fun i p a => I.sep i p a.2.2, fun i p a => I.dom i p a.2.2, I.le, fun _ h => (nomatch h), rfl⟩
  rcases finO_at le h with ⟨a, b⟩ | ⟨a, b, c⟩
  · rw [Nat.zero_add] at a
    have := List.all_eq_true.mp ok i (by simpa using a)
    rw [b] at this
    cases o with
    | fl f =>
      cases f with
      | fz x => exact (I0.slot i _ b).imp id fun ⟨v, e, q⟩ => ⟨v, e, Rp.same s q⟩
      | _ => cases this
    | _ => cases this
  · rw [Nat.zero_add] at a
    have hi : i < vs.length := by omega
    have nr : i ∉ ra := fun m => by
      have : ra.contains i = true := by simpa using m
      rw [a] at this; cases this
    have e := I.pro i (hk i hi nr)
    rw [start_at hN hi] at e
    exact (I.slot i o b).imp id fun ⟨v, q, r⟩ => ⟨v, by rw [← e]; exact q, OR.sub (fun p z => ⟨hi, nr, z⟩) r⟩
theorem fnD_inv {ra : List Nat} {n m : Nat} {g : GS} {os os' : List O} {res : O} (e : fnD ra n m g os = some (res, os')) :
    os.length = n ∧ okRa ra os = true ∧ ∃ f env', g (os ++ List.replicate m .un) = some (f, env') ∧ os' = finO ra 0 os env' ∧ (f = .rt res ∨ (f = .nx ∧ res = .fl (.fz .non))) := by
  unfold fnD at e
  split at e
  · rename_i c
    obtain ⟨⟨f, env'⟩, h, e⟩ := Option.bind_eq_some_iff.mp e
    refine ⟨c.1, c.2, f, env', h, ?_⟩
    cases f with
    | rt o => cases e; exact ⟨rfl, .inl rfl⟩
    | nx => cases e; exact ⟨rfl, .inr ⟨rfl, rfl⟩⟩
    | bk => cases e
    | ct => cases e
    | er x => cases e
  · cases e
theorem body_ok {N : List Str} {vs : List V} {ra kp : List Nat} {m : Nat} {g : GS} {t : TS} {Q : VK} {n : Nat} {E : XK} (hN : N.length = n + m) (hk : ∀ i, i < n → i ∉ ra → i ∈ kp) (h : SS cl kp Eh t g) (sp : spD cl (fnD ra n m g) vs H Q E) :
    t { nx := fun _ H' => Q .non H', rt := Q } (L2.start N vs) H := by
  obtain ⟨F, fp, os, res, os', I, e, k⟩ := sp
  obtain ⟨l, ok, f, env', hg, rfl, hf⟩ := fnD_inv e
  have ln : os.length = vs.length := by have := I.len; simpa using this
  have I0 := I.start m (by omega : N.length = vs.length + m) kp
  have go0 : Go F H (U fp) F H (U fun i p => i < vs.length ∧ fp i p) := Go.refl.mono fun p ⟨i, _, z⟩ => ⟨i, z⟩
  have sub : ∀ {fp' : Nat → Addr → Prop} (p : Addr), U (fun i p => i < vs.length ∧ i ∉ ra ∧ fp' i p) p → U fp' p := fun p ⟨i, _, _, z⟩ => ⟨i, z⟩
  refine h I0 hg ?_
  rcases hf with rfl | ⟨rfl, rfl⟩
  · intro F' H' fp' σ' S v I' go rr nS
    exact k F' H' _ S v (I.fin ok (fun i hi hr => hk i (by omega) hr) (by omega) I' go.sF) ((go0.trans go).mono fun p z => z.imp (sub p) id) rr fun p s => ⟨(nS p s).1, (nS p s).2.1, fun z => (nS p s).2.2 (sub p z)⟩
  · intro F' H' fp' σ' I' go
    exact k F' H' _ (fun _ => False) .non (I.fin ok (fun i hi hr => hk i (by omega) hr) (by omega) I' go.sF) ((go0.trans go).mono fun p z => z.elim (sub p) False.elim) rfl fun p s => s.elim
/-! ## calls -/
def argO (env : Env) : R → Option O
  | .fz a => some (.fl (.fz a))
  | .pl i => match env[i]? with
    | some .un => none
    | o => o
  | _ => none
def argOs (env : Env) : List R → Option (List O)
  | [] => some []
  | r :: rs => (argO env r).bind fun o => (argOs env rs).map (o :: ·)
def plIdx : List R → List Nat
  | .pl i :: rs => i :: plIdx rs
  | _ :: rs => plIdx rs
  | [] => []
def backO : Env → List R → List O → Env
  | env, [], _ => env
  | env, _ :: _, [] => env
  | env, .pl i :: rs, o :: os => backO (env.set i o) rs os
  | env, .fz _ :: rs, _ :: os => backO env rs os
  | env, .pf _ _ :: rs, _ :: os => backO env rs os
  | env, .ow _ :: rs, _ :: os => backO env rs os
def O.toR : O → R
  | .fl (.fz a) => .fz a
  | o => .ow o
/-- what stands at the arguments -/
def RRs (cl : Nat → Addr) (F : Hp) (σ : L2.St) : List R → List V → Prop
  | [], vs => vs = []
  | .fz a :: rs, vs => ∃ v r, vs = v :: r ∧ Rp cl F a v ∧ RRs cl F σ rs r
  | .pl i :: rs, vs => ∃ v r, vs = v :: r ∧ σ[i]? = some (some v) ∧ RRs cl F σ rs r
  | _ :: _, _ => False
theorem RRs.same (s : Same F F') : ∀ {rs : List R} {vs : List V}, RRs cl F σ rs vs → RRs cl F' σ rs vs
  | [], _, h => h
  | .fz a :: rs, _, h => let ⟨v, r, e, q, z⟩ := h; ⟨v, r, e, Rp.same s q, RRs.same s z⟩
  | .pl i :: rs, _, h => let ⟨v, r, e, q, z⟩ := h; ⟨v, r, e, q, RRs.same s z⟩
  | .pf _ _ :: _, _, h => h.elim
  | .ow _ :: _, _, h => h.elim
theorem RRs.len : ∀ {rs : List R} {vs : List V}, RRs cl F σ rs vs → vs.length = rs.length
  | [], _, h => by cases h; rfl
  | .fz a :: rs, _, h => by obtain ⟨v, r, rfl, q, z⟩ := h; simp [RRs.len z]
  | .pl i :: rs, _, h => by obtain ⟨v, r, rfl, q, z⟩ := h; simp [RRs.len z]
  | .pf _ _ :: _, _, h => h.elim
  | .ow _ :: _, _, h => h.elim
theorem RRs.at : ∀ {rs : List R} {vs : List V} {k : Nat} {r : R}, RRs cl F σ rs vs → rs[k]? = some r → ∃ v, vs[k]? = some v ∧ (match r with | .fz a => Rp cl F a v | .pl i => σ[i]? = some (some v) | _ => False)
  | [], _, _, _, _, e => by simp at e
  | .fz a :: rs, _, 0, _, h, e => by obtain ⟨v, r, rfl, q, z⟩ := h; simp at e; subst e; exact ⟨v, rfl, q⟩
  | .pl i :: rs, _, 0, _, h, e => by obtain ⟨v, r, rfl, q, z⟩ := h; simp at e; subst e; exact ⟨v, rfl, q⟩
  | .fz a :: rs, _, k + 1, _, h, e => by
    obtain ⟨v, r, rfl, q, z⟩ := h
    obtain ⟨u, hu, w⟩ := RRs.at z (by simpa using e)
    exact ⟨u, by simpa using hu, w⟩
  | .pl i :: rs, _, k + 1, _, h, e => by
    obtain ⟨v, r, rfl, q, z⟩ := h
    obtain ⟨u, hu, w⟩ := RRs.at z (by simpa using e)
    exact ⟨u, by simpa using hu, w⟩
  | .pf _ _ :: _, _, _, _, h, _ => h.elim
  | .ow _ :: _, _, _, _, h, _ => h.elim
theorem argOs_at : ∀ {rs : List R} {os : List O} {k : Nat} {o : O}, argOs env rs = some os → os[k]? = some o → ∃ r, rs[k]? = some r ∧ argO env r = some o
  | [], _, _, _, e, h => by cases e; simp at h
  | r :: rs, _, 0, _, e, h => by
    obtain ⟨o, ho, e⟩ := Option.bind_eq_some_iff.mp e
    obtain ⟨os, hos, rfl⟩ := Option.map_eq_some_iff.mp e
    simp at h; subst h
    exact ⟨r, rfl, ho⟩
  | r :: rs, _, k + 1, _, e, h => by
    obtain ⟨o, ho, e⟩ := Option.bind_eq_some_iff.mp e
    obtain ⟨os, hos, rfl⟩ := Option.map_eq_some_iff.mp e
    obtain ⟨r', h1, h2⟩ := argOs_at hos (by simpa using h)
    exact ⟨r', by simpa using h1, h2⟩
theorem argOs_len : ∀ {rs : List R} {os : List O}, argOs env rs = some os → os.length = rs.length
  | [], _, e => by cases e; rfl
  | r :: rs, _, e => by
    obtain ⟨o, ho, e⟩ := Option.bind_eq_some_iff.mp e
    obtain ⟨os, hos, rfl⟩ := Option.map_eq_some_iff.mp e
    simp [argOs_len hos]
theorem plIdx_mem : ∀ {rs : List R} {k i : Nat}, rs[k]? = some (.pl i) → i ∈ plIdx rs
  | [], _, _, h => by simp at h
  | r :: rs, 0, i, h => by simp at h; subst h; exact List.mem_cons_self
  | r :: rs, k + 1, i, h => by
    have := plIdx_mem (rs := rs) (k := k) (i := i) (by simpa using h)
    cases r <;> first | exact List.mem_cons_of_mem _ this | exact this
theorem plIdx_at : ∀ {rs : List R} {i : Nat}, i ∈ plIdx rs → ∃ k : Nat, rs[k]? = some (.pl i)
  | [], _, h => nomatch h
  | r :: rs, i, h => by
    cases r with
    | pl j =>
      rcases List.mem_cons.mp (show i ∈ j :: plIdx rs from h) with rfl | h
      · exact ⟨0, rfl⟩
      · obtain ⟨k, hk⟩ := plIdx_at h; exact ⟨k + 1, by simpa using hk⟩
    | fz a => obtain ⟨k, hk⟩ := plIdx_at (show i ∈ plIdx rs from h); exact ⟨k + 1, by simpa using hk⟩
    | pf a b => obtain ⟨k, hk⟩ := plIdx_at (show i ∈ plIdx rs from h); exact ⟨k + 1, by simpa using hk⟩
    | ow a => obtain ⟨k, hk⟩ := plIdx_at (show i ∈ plIdx rs from h); exact ⟨k + 1, by simpa using hk⟩
theorem plIdx_inj : ∀ {rs : List R} {k l i : Nat}, (plIdx rs).Nodup → rs[k]? = some (.pl i) → rs[l]? = some (.pl i) → k = l
  | [], _, _, _, _, h, _ => by simp at h
  | r :: rs, 0, 0, _, _, _, _ => rfl
  | r :: rs, 0, l + 1, i, n, h, g => by
    simp at h; subst h
    exact absurd (plIdx_mem (by simpa using g)) (List.nodup_cons.mp (show (i :: plIdx rs).Nodup from n)).1
  | r :: rs, k + 1, 0, i, n, h, g => by
    simp at g; subst g
    exact absurd (plIdx_mem (by simpa using h)) (List.nodup_cons.mp (show (i :: plIdx rs).Nodup from n)).1
  | r :: rs, k + 1, l + 1, i, n, h, g => by
    have n' : (plIdx rs).Nodup := by cases r <;> first | exact (List.nodup_cons.mp n).2 | exact n
    have := plIdx_inj (k := k) (l := l) (i := i) n' (by simpa using h) (by simpa using g)
    omega
theorem backO_len : ∀ {rs : List R} {os : List O} {env : Env}, (backO env rs os).length = env.length
  | [], _, _ => by simp [backO]
  | r :: rs, [], env => by simp [backO]
  | r :: rs, o :: os, env => by
    cases r with
    | pl i => exact (backO_len (rs := rs) (os := os) (env := env.set i o)).trans List.length_set
    | fz _ => exact backO_len (rs := rs) (os := os) (env := env)
    | pf _ _ => exact backO_len (rs := rs) (os := os) (env := env)
    | ow _ => exact backO_len (rs := rs) (os := os) (env := env)
theorem backO_out : ∀ {rs : List R} {os : List O} {env : Env} {j : Nat}, j ∉ plIdx rs → (backO env rs os)[j]? = env[j]?
  | [], _, _, _, _ => by simp [backO]
  | r :: rs, [], env, j, _ => by simp [backO]
  | r :: rs, o :: os, env, j, h => by
    cases r with
    | pl i =>
      have h : j ∉ i :: plIdx rs := h
      show (backO (env.set i o) rs os)[j]? = _
      rw [backO_out (fun z => h (List.mem_cons_of_mem _ z)), List.getElem?_set_ne (fun z => h (by rw [z]; exact List.mem_cons_self))]
    | _ => exact backO_out (rs := rs) (os := os) h
theorem backO_in : ∀ {rs : List R} {os : List O} {env : Env} {k i : Nat}, (plIdx rs).Nodup → rs[k]? = some (.pl i) → k < os.length → i < env.length → (backO env rs os)[i]? = os[k]?
  | [], _, _, _, _, _, h, _, _ => by simp at h
  | r :: rs, [], env, k, i, _, _, l, _ => by simp at l
  | r :: rs, o :: os, env, 0, i, n, h, _, hi => by
    simp at h; subst h
    show (backO (env.set i o) rs os)[i]? = _
    rw [backO_out (List.nodup_cons.mp (show (i :: plIdx rs).Nodup from n)).1, List.getElem?_set_self hi]
    rfl
  | r :: rs, o :: os, env, k + 1, i, n, h, l, hi => by
    have n' : (plIdx rs).Nodup := by cases r <;> first | exact (List.nodup_cons.mp n).2 | exact n
    have h' : rs[k]? = some (.pl i) := by simpa using h
    have l' : k < os.length := by simpa using l
    cases r with
    | pl j => show (backO (env.set j o) rs os)[i]? = _; rw [backO_in n' h' l' (by rw [List.length_set]; exact hi)]; simp
    | _ => show (backO env rs os)[i]? = _; rw [backO_in n' h' l' hi]; simp
/-- the slots that a call does not touch -/
theorem untouched (I : Rs cl kp τ F H fp env σ) {UA UB : Addr → Prop} (go : Go F H UA F' H' UB) {j : Nat} (no : ∀ p, fp j p → ¬ UA p) :
    (∀ o, env[j]? = some o → OS cl F' H' (fp j) o σ[j]?) ∧ (∀ p, fp j p → F' p = none) ∧ (∀ p, fp j p → Nt H' p) ∧ ∀ p, fp j p → ¬ UB p := by
  refine ⟨fun o e => (I.slot j o e).imp id fun ⟨v, a, b⟩ => ⟨v, a, OR.go go.sF (fun p u h => go.keep p u (no p h)) b⟩, fun p h => ?_, fun p h => go.ntd p (I.dom j p h), fun p h z => ?_⟩
  · cases e : F' p with
    | none => rfl
    | some u =>
      rcases go.new p (by rw [e]; exact fun z => nomatch z) (I.sep j p h) with z | z | ⟨vs, z⟩
      · exact ((I.dom j p h).ne z).elim
      · exact (no p h z).elim
      · exact ((I.dom j p h).no z).elim
  · rcases go.fpn p z with z | z
    · exact no p h z
    · exact (I.dom j p h).ne z
/-- the arguments as a state of their own -/
def fpArg (fp : Nat → Addr → Prop) (rs : List R) : Nat → Addr → Prop := fun k p => ∃ i, rs[k]? = some (.pl i) ∧ fp i p
theorem Rs.args (I : Rs cl kp τ F H fp env σ) {rs : List R} {vs : List V} {os : List O} (r : RRs cl F σ rs vs) (a : argOs env rs = some os) (n : (plIdx rs).Nodup) : Rs cl [] (vs.map some) F H (fpArg fp rs) os (vs.map some) := by
  refine ⟨by rw [argOs_len a, List.length_map, r.len], fun k o h => ?_, fun k l p ⟨i, hi, a⟩ ⟨j, hj, b⟩ => ?_, fun k p ⟨i, _, a⟩ => I.sep i p a, fun k p ⟨i, _, a⟩ => I.dom i p a, I.le, fun _ h => (nomatch h), rfl⟩
  · obtain ⟨x, hx, ha⟩ := argOs_at a h
    obtain ⟨v, hv, w⟩ := r.at hx
    refine .inr ⟨v, by rw [List.getElem?_map, hv]; rfl, ?_⟩
    cases x with
    | fz b => cases ha; exact w
    | pl i =>
      have ha : (match env[i]? with | some .un => none | o => o) = some o := ha
      have w : σ[i]? = some (some v) := w
      have he : env[i]? = some o ∧ o ≠ .un := by
        cases q : env[i]? with
        | none => rw [q] at ha; cases ha
        | some y =>
          rw [q] at ha
          cases y with
          | un => cases ha
          | fl f => cases ha; exact ⟨rfl, fun z => nomatch z⟩
          | ins c ns fs => cases ha; exact ⟨rfl, fun z => nomatch z⟩
      rcases I.slot i o he.1 with z | ⟨u, hu, q⟩
      · exact (he.2 z).elim
      · rw [w] at hu
        cases hu
        exact OR.sub (fun p h => ⟨i, hx, h⟩) q
    | pf _ _ => cases ha
    | ow _ => cases ha
  · have e := I.dis i j p a b
    subst e
    exact plIdx_inj n hi hj
/-- the state behind a call -/
theorem Rs.called (I : Rs cl kp τ F H fp env σ) {rs : List R} {vs : List V} {os os' : List O} (r : RRs cl F σ rs vs) (a : argOs env rs = some os) (n : (plIdx rs).Nodup) {fp' : Nat → Addr → Prop} {S : Addr → Prop}
    (I' : Rs cl [] (vs.map some) F' H' fp' os' (vs.map some)) (go : Go F H (U (fpArg fp rs)) F' H' (fun p => U fp' p ∨ S p)) (nS : ∀ p, S p → F' p = none ∧ Nt H' p ∧ ¬ U fp' p) :
    ∃ fp2, Rs cl kp τ F' H' fp2 (backO env rs os') σ ∧ Go F H (U fp) F' H' (fun p => U fp2 p ∨ S p) ∧ ∀ p, S p → F' p = none ∧ Nt H' p ∧ ¬ U fp2 p := by
  have ln : os'.length = rs.length := by have := I'.len; rw [List.length_map, r.len] at this; exact this
  have no : ∀ j, j ∉ plIdx rs → ∀ p, fp j p → ¬ U (fpArg fp rs) p := fun j hj p h ⟨k, i, hi, hp⟩ => hj (by rw [I.dis j i p h hp]; exact plIdx_mem hi)
  let fp2 : Nat → Addr → Prop := fun j p => (j ∉ plIdx rs ∧ fp j p) ∨ ∃ k, rs[k]? = some (.pl j) ∧ fp' k p
  have hOld : ∀ j p, j ∉ plIdx rs → fp j p → ¬ U fp' p ∧ ¬ S p := fun j p hj h => by
    obtain ⟨_, _, _, z⟩ := untouched I go (no j hj)
    exact ⟨fun q => z p h (.inl q), fun q => z p h (.inr q)⟩
  refine ⟨fp2, ⟨by rw [backO_len]; exact I.len, fun j o h => ?_, fun j l p a b => ?_, fun j p a => ?_, fun j p a => ?_, I'.le, I.pro, I.tl⟩, ?_, fun p s => ⟨(nS p s).1, (nS p s).2.1, ?_⟩⟩
  · by_cases hj : j ∈ plIdx rs
    · obtain ⟨k, hk⟩ := plIdx_at hj
      have hlen : j < env.length := by have := (List.getElem?_eq_some_iff.mp h).1; rw [backO_len] at this; exact this
      have hk' : k < os'.length := by rw [ln]; exact (List.getElem?_eq_some_iff.mp hk).1
      rw [backO_in n hk hk' hlen] at h
      obtain ⟨v, hv, w⟩ := r.at hk
      have w : σ[j]? = some (some v) := w
      rcases I'.slot k o h with z | ⟨u, hu, q⟩
      · exact .inl z
      · rw [List.getElem?_map, hv] at hu
        cases hu
        exact .inr ⟨v, w, OR.sub (fun p z => .inr ⟨k, hk, z⟩) q⟩
    · rw [backO_out hj] at h
      obtain ⟨s1, _⟩ := untouched I go (no j hj)
      exact (s1 o h).imp id fun ⟨v, a, b⟩ => ⟨v, a, OR.sub (fun p z => .inl ⟨hj, z⟩) b⟩
  · rcases a with ⟨a1, a2⟩ | ⟨k, a1, a2⟩ <;> rcases b with ⟨b1, b2⟩ | ⟨k', b1, b2⟩
    · exact I.dis j l p a2 b2
    · exact ((hOld j p a1 a2).1 ⟨k', b2⟩).elim
    · exact ((hOld l p b1 b2).1 ⟨k, a2⟩).elim
    · have e := I'.dis k k' p a2 b2
      subst e
      rw [a1] at b1
      cases b1
      rfl
  · rcases a with ⟨a1, a2⟩ | ⟨k, a1, a2⟩
    · exact (untouched I go (no j a1)).2.1 p a2
    · exact I'.sep k p a2
  · rcases a with ⟨a1, a2⟩ | ⟨k, a1, a2⟩
    · exact (untouched I go (no j a1)).2.2.1 p a2
    · exact I'.dom k p a2
  · refine (go.wide (V' := U fp) fun p ⟨k, i, _, z⟩ => ⟨i, z⟩).mono (V' := fun p => U fp' p ∨ S p) (fun _ z => z) |> fun g => ⟨g.sF, g.keep, g.new, fun p h => ?_, g.dom, g.ntd⟩
    rcases h with ⟨j, ⟨_, z⟩ | ⟨k, _, z⟩⟩ | z
    · exact .inl ⟨j, z⟩
    · exact g.fpn p (.inl ⟨k, z⟩)
    · exact g.fpn p (.inr z)
  · rintro ⟨j, ⟨a1, a2⟩ | ⟨k, _, a2⟩⟩
    · exact (hOld j p a1 a2).2 s
    · exact (nS p s).2.2 ⟨k, a2⟩
/-- arguments -/
def SR (cl : Nat → Addr) (kp : List Nat) (t : TA) (g : Env → Option (List R × Env)) : Prop :=
  ∀ ⦃τ : L2.St⦄ ⦃F H : Hp⦄ ⦃fp : Nat → Addr → Prop⦄ ⦃env : Env⦄ ⦃σ : L2.St⦄ ⦃Q : List V → Hp → Prop⦄ ⦃rs : List R⦄ ⦃env' : Env⦄, Rs cl kp τ F H fp env σ → g env = some (rs, env') →
    (∀ F' H' fp' vs, Rs cl kp τ F' H' fp' env' σ → Go F H (U fp) F' H' (U fp') → RRs cl F' σ rs vs → Q vs H') → t σ H Q
def gA0 : Env → Option (List R × Env) := fun env => some ([], env)
def gA (ga : G) (gr : Env → Option (List R × Env)) : Env → Option (List R × Env) := fun env => (ga env).bind fun p => if p.1.isPf || p.1.tmp.isOw then none else (gr p.2).map fun q => (p.1.tmp :: q.1, q.2)
theorem sr_nil : SR cl kp tNil gA0 := by
  intro τ F H fp env σ Q rs env' I e k
  cases e
  exact k F H fp [] I Go.refl rfl
theorem sr_cons {pu : Bool} {ta : TE} {tr : TA} {ga : G} {gr : Env → Option (List R × Env)} (ha : SE cl kp pu ta ga) (hr : SR cl kp tr gr) : SR cl kp (tCons ta tr) (gA ga gr) := by
  intro τ F H fp env σ Q rs env' I e k
  obtain ⟨⟨r, e1⟩, h1, e⟩ := Option.bind_eq_some_iff.mp e
  split at e
  case isTrue => cases e
  rename_i c
  obtain ⟨⟨rs', e2⟩, h2, z⟩ := Option.map_eq_some_iff.mp e
  cases z
  have g1 : gT ga env = some (r.tmp, e1) := by unfold gT; rw [h1]; rfl
  refine ha.tmp I g1 fun F1 H1 fp1 S v I1 go1 rr _ => hr I1 h2 fun F2 H2 fp2 vs I2 go2 rrs => ?_
  refine k F2 H2 fp2 (v :: vs) I2 ((go1.mono fun p z => .inl z).trans go2) ?_
  have c : (r.isPf || r.tmp.isOw) = false := by simpa using c
  obtain ⟨c1, c2⟩ := Bool.or_eq_false_iff.mp c
  have c3 : r.tmp.isPf = false := by
    cases r with
    | ow o => show (match o.vw with | some a => R.fz a | none => .ow o).isPf = false; cases o.vw <;> rfl
    | pf i f => cases c1
    | _ => rfl
  generalize r.tmp = r' at rr c2 c3
  cases r' with
  | fz a => exact ⟨v, vs, rfl, Rp.same go2.sF rr, rrs⟩
  | pl i => exact ⟨v, vs, rfl, rr, rrs⟩
  | pf i f => cases c3
  | ow o => cases c2
def callG (f : GF) (rs : List R) (env : Env) : Option (R × Env) := if (plIdx rs).Nodup then (argOs env rs).bind fun os => (f os).map fun p => (p.1.toR, backO env rs p.2) else none
theorem RR.toR {res : O} {v : V} (h : OR cl F H S res v) (n : ∀ p, S p → F p = none ∧ Nt H p ∧ ¬ U fp p) : RR cl F H fp σ res.toR v S := by
  cases res with
  | un => exact ⟨trivial, n⟩
  | ins c ns fs => exact ⟨h, n⟩
  | fl f => cases f <;> first | exact h | exact ⟨h, n⟩
/-- the call itself -/
theorem call_ok {f : GF} {rs : List R} {vs : List V} {r : R} {env' : Env} {Q : VK} {E : XK} (I : Rs cl kp τ F H fp env σ) (rr : RRs cl F σ rs vs) (e : callG f rs env = some (r, env'))
    (k : ∀ F' H' fp' S v, Rs cl kp τ F' H' fp' env' σ → Go F H (U fp) F' H' (fun p => U fp' p ∨ S p) → RR cl F' H' fp' σ r v S → Q v H') : spD cl f vs H Q E := by
  unfold callG at e
  split at e
  case isFalse => cases e
  rename_i n
  obtain ⟨os, ha, e⟩ := Option.bind_eq_some_iff.mp e
  obtain ⟨⟨res, os'⟩, hf, z⟩ := Option.map_eq_some_iff.mp e
  cases z
  refine ⟨F, fpArg fp rs, os, res, os', I.args rr ha n, hf, fun F' H' fp' S v I' go ro nS => ?_⟩
  obtain ⟨fp2, I2, go2, n2⟩ := I.called rr ha n I' go nS
  exact k F' H' fp2 S v I2 go2 (RR.toR ro n2)
def scV : List A → Option (List V)
  | [] => some []
  | x :: xs => x.sc.bind fun v => (scV xs).map (v :: ·)
theorem RRs.app : ∀ {rs : List R} {vs : List V} {ds : List A} {us : List V}, RRs cl F σ rs vs → scV ds = some us → RRs cl F σ (rs ++ ds.map .fz) (vs ++ us)
  | [], _, [], _, h, e => by cases h; cases e; rfl
  | [], _, d :: ds, _, h, e => by
    cases h
    obtain ⟨v, hv, e⟩ := Option.bind_eq_some_iff.mp e
    obtain ⟨us, hu, rfl⟩ := Option.map_eq_some_iff.mp e
    exact ⟨v, us, rfl, Rp.of_sc hv, RRs.app (rs := []) (vs := []) rfl hu⟩
  | .fz a :: rs, _, ds, _, h, e => let ⟨v, r, x, q, z⟩ := h; by subst x; exact ⟨v, _, rfl, q, RRs.app z e⟩
  | .pl i :: rs, _, ds, _, h, e => let ⟨v, r, x, q, z⟩ := h; by subst x; exact ⟨v, _, rfl, q, RRs.app z e⟩
  | .pf _ _ :: _, _, _, _, h, _ => h.elim
  | .ow _ :: _, _, _, _, h, _ => h.elim
/-- f(..) -/
def gCall (f : GF) (ds : List A) (g : Env → Option (List R × Env)) : G := fun env => (g env).bind fun p => callG f (p.1 ++ ds.map .fz) p.2
theorem se_call {f : GF} {ds : List A} {dvs : List V} {E : XK} {t : TA} {g : Env → Option (List R × Env)} (hd : scV ds = some dvs) (h : SR cl kp t g) : SE cl kp false (tCall (spD cl f) dvs E t) (gCall f ds g) := by
  intro τ F H fp env σ Q r env' I e k
  obtain ⟨⟨rs, e1⟩, h1, e⟩ := Option.bind_eq_some_iff.mp e
  exact h I h1 fun F1 H1 fp1 vs I1 go1 rr => call_ok I1 (rr.app hd) e fun F' H' fp' S v I' go' r' => k F' H' fp' S v I' (go1.trans go') r' fun z => nomatch z
/-- o.m(..): the class is c -/
def insOf (c : Nat) (m : Str) : A → Bool
  | .ins c' ns _ => c' == c && !ns.contains m
  | _ => false
def gMeth (c : Nat) (m : Str) (f : GF) (ds : List A) (go : G) (g : Env → Option (List R × Env)) : G := fun env => (go env).bind fun p => if p.1.isPf || p.1.tmp.isOw then none else
  (p.1.tmp.vw p.2).bind fun a => if insOf c m a then (g p.2).bind fun q => callG f (p.1.tmp :: (q.1 ++ ds.map .fz)) q.2 else none
theorem RpL.rrs : ∀ {as : List A} {vs : List V}, RpL cl F as vs → RRs cl F σ (as.map .fz) vs
  | [], _, h => h
  | _ :: _, _, h => let ⟨v, r, e, q, z⟩ := h; ⟨v, r, e, q, RpL.rrs z⟩
end
section
variable {P : Program} {w : World} {K : PySem.W.Frag} {mg : Str → Option Value} {base : Heap} {cl : Nat → Addr} {Eh : XK}
/-- a def by its body -/
theorem _root_.L2.Fun.okD {x qual : Str} {st : Stmt} {f : Addr} {fd : FuncData} {N ps : List Str} {k : Nat} (F : Fun K x qual st f fd) (S : FnScope N ps (defScope st)) (ra kp : List Nat) (m : Nat) (g : GS)
    (hN : N.length = ps.length + m) (hk : ((List.range ps.length).all fun i => ra.contains i || kp.contains i) = true)
    (body : ∀ (cdv : Value) (A : Around) (outer : List PySem.Env) (s : Shared) (H : Hp) (E : XK), Room k (A.deeper (PyProof.Rows.envOfC qual (defScope st) s.heap.objs.size f cdv)) →
      ∃ t, PSs (cxOf CX0 P w K mg base N qual (defScope st) f cdv A outer s H E).nox (defBody st) t ∧ SS cl kp E t g) : FnOk P w K mg base CX0 (k + 1) f fd ps (spD cl (fnD ra ps.length m g)) := by
  refine F.ok S (fun vs H Q E h => ?_) (fun cdv A outer s H vs Q E hr h => ?_)
  · obtain ⟨F, fp, os, res, os', I, e, _⟩ := h
    obtain ⟨l, _⟩ := fnD_inv e
    have := I.len
    rw [List.length_map] at this
    omega
  · obtain ⟨t, ht, hs⟩ := body cdv A outer s H E hr
    refine ⟨t, ht, body_ok hN (fun i hi hr => ?_) hs h⟩
    have := List.all_eq_true.mp hk i (List.mem_range.mpr hi)
    rcases Bool.or_eq_true_iff.mp this with z | z
    · exact (hr (by simpa using z)).elim
    · simpa using z
end
end Dl
set_option profiler true
set_option profiler.threshold 3000
/-! ## sorted of texts by key=str -/
namespace PyProof.Rows
open PySem
section
variable {prog : Program} {w : World} {A : Around} {E : Value → Shared → Prop} {s : Shared}
end
end PyProof.Rows
namespace Dl
open PySem PySem.Spec L2
section
variable {X : Cx}
end
end Dl
namespace L2
open PySem PySem.Spec PyProof.Rows
/-! ## own operators of an instance with a dict -/
section
variable {X : Cx} {CX : CXT} {k : Nat} {C f : Addr} {fd : FuncData} {ps : List Str} {sp : Sp} {E : XK} {a b : Expr} {ta tb : TE} {pos : Pos}
end
end L2
namespace L2
open PySem PySem.Spec PyProof.Rows
section
variable {X : Cx} {CX : CXT} {k : Nat} {C f : Addr} {fd : FuncData} {ps : List Str} {sp : Sp} {E : XK}
end
end L2
namespace L2
open PySem PySem.Spec PyProof.Rows
/-! ## x in o, x not in o: o an own instance of the class at C -/
section
variable {X : Cx} {CX : CXT} {k : Nat} {C f : Addr} {fd : FuncData} {ps : List Str} {sp : Sp} {E : XK}
end
end L2
namespace Dl
open PySem PySem.Spec L2
/-! ## sorted of texts -/
def strs? : List A → Option (List Str)
  | [] => some []
  | .str s :: xs => (strs? xs).map (s :: ·)
  | _ :: _ => none
section
variable {cl : Nat → Addr} {kp : List Nat} {τ σ : L2.St} {F F' H H' : Hp} {fp : Nat → Addr → Prop} {env : Env} {S : Addr → Prop} {K : PySem.W.Frag}
theorem strs_rp : ∀ {xs : List A} {vs : List V} {ss : List Str}, RpL cl F xs vs → strs? xs = some ss → vs = ss.map V.str
  | [], _, _, h, e => by cases h; cases e; rfl
  | a :: xs, _, _, h, e => by
    obtain ⟨v, r, rfl, q, z⟩ := h
    cases a with
    | str s =>
      obtain ⟨ds, hds, rfl⟩ := Option.map_eq_some_iff.mp (show (strs? xs).map (s :: ·) = some _ from e)
      cases (show v = V.str s from q)
      rw [strs_rp z hds]
      rfl
    | _ => cases e
/-! ## own operators -/
def A.isIns (c : Nat) : A → Bool
  | .ins c' _ _ => c' == c
  | _ => false
theorem Rv.ins {c : Nat} {a : A} {v : V} (h : Rv cl F H a v) (e : a.isIns c = true) : ∃ p dx fs, v = .ref p ∧ H p = some (.ins (cl c) dx fs) := by
  cases a with
  | ins c' ns xs =>
    have e : (c' == c) = true := e
    have e : c' = c := by simpa using e
    subst e
    obtain ⟨p, dx, vs, rfl, q, _⟩ := h
    exact ⟨p, dx, _, rfl, q⟩
  | _ => cases e
theorem RRs.rv (I : Rs cl kp τ F H fp env σ) : ∀ {rs : List R} {vs : List V} {i : Nat} {r : R} {v : V} {a : A}, RRs cl F σ rs vs → rs[i]? = some r → vs[i]? = some v → r.vw env = some a → Rv cl F H a v := fun {rs vs i r v a} h hr hv e => by
  obtain ⟨u, hu, w⟩ := h.at hr
  rw [hv] at hu
  cases hu
  cases r with
  | fz b => exact RR.rv (S := fun _ => False) I (show RR cl F H fp σ (.fz b) v _ from w) e
  | pl j => exact RR.rv (S := fun _ => False) I (show RR cl F H fp σ (.pl j) v _ from w) e
  | pf _ _ => exact w.elim
  | ow _ => exact w.elim
/-- both operands, then an own def -/
def gOp2 (cond : A → A → Bool) (sw : Bool) (f : GF) (ga gb : G) : G := fun env => (gA ga (gA gb gA0) env).bind fun p => match p.1 with
  | [r1, r2] => (r1.vw p.2).bind fun a => (r2.vw p.2).bind fun b => if cond a b then callG f (if sw then [r2, r1] else [r1, r2]) p.2 else none
  | _ => none
/-- a op b, both of the class c -/
def bothIns (c : Nat) (a b : A) : Bool := a.isIns c && b.isIns c
/-- a[b], a of the class c -/
def leftIns (c : Nat) (a _b : A) : Bool := a.isIns c
/-- a in b, b of the class c, whose def gives True or False -/
def rightIns (c : Nat) (_a b : A) : Bool := b.isIns c
def negR (neg : Bool) : R → Option R
  | .fz (.bl b) => some (.fz (.bl (if neg then !b else b)))
  | _ => none
def gInO (c : Nat) (neg : Bool) (f : GF) (ga gb : G) : G := fun env => (gOp2 (rightIns c) true f ga gb env).bind fun p => (negR neg p.1).map fun r => (r, p.2)
/-- ~a -/
def gOp1 (cond : A → Bool) (f : GF) (ga : G) : G := fun env => (gA ga gA0 env).bind fun p => match p.1 with
  | [r1] => (r1.vw p.2).bind fun a => if cond a then callG f [r1] p.2 else none
  | _ => none
/-! ## fields -/
def fldR (i : Nat) (n : Str) : Fl → R
  | .fz a => .fz a
  | _ => .pf i n
def gFld (c : Nat) (n : Str) (g : G) : G := fun env => (g env).bind fun p => match p.1.tmp with
  | .fz (.ins c' ns xs) => if c' = c then ((ns.zip xs).lookup n).map fun a => (.fz a, p.2) else none
  | .pl i => match p.2[i]? with
    | some (.ins c' ns fs) => if c' = c then (fld ns fs n).map fun f => (fldR i n f, p.2) else none
    | _ => none
  | _ => none
end
end Dl
namespace Dl
open PySem PySem.Spec L2
/-! ## what is owned is changed -/
def Fl.isL : Fl → Bool
  | .lst _ => true | _ => false
def MtP (cl : Nat → Addr) (r : V → List V → Hp → VK → Prop) (f : Fl → List A → Option (Fl × A)) : Prop := ∀ ⦃F H : Hp⦄ ⦃p : Addr⦄ ⦃o : HO⦄ ⦃fl fl' : Fl⦄ ⦃as : List A⦄ ⦃vs : List V⦄ ⦃a : A⦄ ⦃Q : VK⦄, Same F H → H p = some o → FlO cl F fl o → RpL cl F as vs →
  f fl as = some (fl', a) → (∀ o' v, FlO cl F fl' o' → Rp cl F a v → Q v (upd H p o')) → r (.ref p) vs H Q
def gPlc (f : Fl → List A → Option (Fl × A)) (pa : Bool) (g : G) (ga : Env → Option (List A × Env)) : G := fun env => (g env).bind fun p => (getP p.2 p.1).bind fun f0 => if f0.isL && (!p.1.isPf || pa) then
  (ga p.2).bind fun q => (getP q.2 p.1).bind fun fl => if fl.own then (f fl q.1).map fun z => (.fz z.2, putP q.2 p.1 z.1) else none
  else none
section
variable {cl : Nat → Addr} {kp : List Nat} {τ σ : L2.St} {F F' H H' : Hp} {fp : Nat → Addr → Prop} {env : Env} {S : Addr → Prop} {K : PySem.W.Frag} {Eh : XK}
theorem getP_ow {r : R} {f : Fl} (e : getP env r = some f) : r.isOw = false := by
  cases r <;> first | rfl | cases e
theorem isL_inv {f : Fl} (h : f.isL = true) : ∃ xs, f = .lst xs := by
  cases f <;> first | exact ⟨_, rfl⟩ | cases h
theorem tyV_list {x : V} {f : Fl} {r : R} (I : Rs cl kp τ F H fp env σ) (rr : RR cl F H fp σ r x S) (e : getP env r = some f) (hl : f.isL = true) : tyV K "list" x H := by
  obtain ⟨xs, rfl⟩ := isL_inv hl
  obtain ⟨p, o, rfl, hp, ⟨vs, rfl, _⟩, _⟩ := place_ok I rr e rfl
  exact .inl ⟨rfl, vs, SqL.of hp⟩
theorem se_plc {pu pa : Bool} {t : TE} {ta : TA} {g : G} {ga : Env → Option (List A × Env)} {r : V → List V → Hp → VK → Prop} {f : Fl → List A → Option (Fl × A)} (hr : MtP cl r f) (h : SE cl kp pu t g) (ha : SA cl kp pa ta ga) :
    SE cl kp false (tBM K "list" r t ta) (gPlc f pa g ga) := by
  intro τ F H fp env σ Q z env' I e k
  obtain ⟨⟨r0, e1⟩, h1, e⟩ := Option.bind_eq_some_iff.mp e
  obtain ⟨f0, hf0, e⟩ := Option.bind_eq_some_iff.mp e
  split at e
  case isFalse => cases e
  rename_i c
  obtain ⟨c1, c2⟩ := and_t c
  obtain ⟨⟨as, e2⟩, h2, e⟩ := Option.bind_eq_some_iff.mp e
  obtain ⟨fl, hfl, e⟩ := Option.bind_eq_some_iff.mp e
  split at e
  case isFalse => cases e
  rename_i ow
  obtain ⟨⟨fl', a⟩, hf, z⟩ := Option.map_eq_some_iff.mp e
  cases z
  refine h I h1 fun F1 H1 fp1 S x I1 go1 rr1 _ => ⟨tyV_list I1 rr1 hf0 c1, ?_⟩
  refine ha I1 h2 fun F2 H2 fp2 vs I2 go2 rl pu2 => ?_
  have rr2 : RR cl F2 H2 fp2 σ r0 x S := rr1.keep (getP_ow hf0) go2.sF fun z => by
    have : pa = true := by
      rw [z] at c2
      exact c2
    exact (pu2 this).2.2
  obtain ⟨p, o, rfl, hp, ho, put⟩ := place_ok I2 rr2 hfl ow
  refine hr I2.le hp ho rl hf fun o' v ho' rv => ?_
  obtain ⟨I3, go3⟩ := put fl' o' ho'
  exact k _ _ fp2 (fun _ => False) v I3 ((((go1.mono fun p z => .inl z).trans go2).trans go3).mono fun q z => z.elim id False.elim) rv fun z => nomatch z
def pAppend : Fl → List A → Option (Fl × A)
  | .lst xs, [a] => if xs.length < sizeLine then some (.lst (xs ++ [a]), .non) else none
  | _, _ => none
theorem mp_append : MtP cl rAppend pAppend := by
  intro F H p o fl fl' as vs a Q s hp ho rl e k
  unfold pAppend at e
  split at e
  · split at e
    · rename_i xs x c
      cases e
      obtain ⟨ws, rfl, rw'⟩ := ho
      obtain ⟨v, r, rfl, rv, rfl⟩ := rl
      exact ⟨p, ws, v, rfl, rfl, hp, by rw [rw'.length]; exact c, k _ .non ⟨_, rfl, rw'.app (RpL.one rv)⟩ rfl⟩
    · cases e
  · cases e
theorem RpL.reverse : ∀ {xs : List A} {vs : List V}, RpL cl F xs vs → RpL cl F xs.reverse vs.reverse
  | [], _, h => by cases h; exact rfl
  | _ :: _, _, h => by
    obtain ⟨v, r, rfl, q, z⟩ := h
    rw [List.reverse_cons, List.reverse_cons]
    exact z.reverse.app (RpL.one q)
/-- xs[i] = e -/
def gSetI (pi : Bool) (gv : Env → Option (A × Env)) (g gi : G) : GS := fun env => (gv env).bind fun p => (g p.2).bind fun q => if (!q.1.isPf || pi) then (gOne gi q.2).bind fun z => (getP z.2 q.1).bind fun fl => match fl, z.1 with
    | .lst xs, .int k => (ixN xs.length k).map fun j => (.nx, putP z.2 q.1 (.lst (xs.set j p.1)))
    | _, _ => none
  else none
theorem ss_setI {pv pu pi : Bool} {tv to ti : TE} {gv : Env → Option (A × Env)} {g gi : G} (hv : SF cl kp pv tv gv) (ho : SE cl kp pu to g) (hi : SE cl kp pi ti gi) : SS cl kp Eh (tAsg tv (gSub to ti rSetL)) (gSetI pi gv g gi) := by
  intro τ F H fp env σ D f env' I e k
  obtain ⟨⟨a, e1⟩, h1, e⟩ := Option.bind_eq_some_iff.mp e
  obtain ⟨⟨r0, e2⟩, h2, e⟩ := Option.bind_eq_some_iff.mp e
  split at e
  case isFalse => cases e
  rename_i c
  obtain ⟨⟨ix, e3⟩, h3, e⟩ := Option.bind_eq_some_iff.mp e
  obtain ⟨fl, hfl, e⟩ := Option.bind_eq_some_iff.mp e
  refine hv I h1 fun F1 H1 fp1 v I1 go1 ra _ => ?_
  refine ho I1 h2 fun F2 H2 fp2 S x I2 go2 rr2 _ => ?_
  refine se_one (W := fun i H3 => rSetL x i v H3 fun H4 => D.nx σ H4) hi I2 h3 fun F3 H3 fp3 y I3 go3 ry pu3 => ?_
  have rr3 : RR cl F3 H3 fp3 σ r0 x S := rr2.keep (getP_ow hfl) go3.sF fun z => by
    have : pi = true := by rw [z] at c; exact c
    exact (pu3 this).2.2
  cases fl with
  | lst xs =>
    cases ix with
    | int n =>
      obtain ⟨j, hj, z⟩ := Option.map_eq_some_iff.mp (show (ixN xs.length n).map (fun j => (Fo.nx, putP e3 r0 (.lst (xs.set j a)))) = some (f, env') from e)
      cases z
      obtain ⟨p, o, rfl, hp, ⟨ws, rfl, rw'⟩, put⟩ := place_ok I3 rr3 hfl rfl
      have go23 := (go2.mono fun p z => .inl z).trans go3
      obtain ⟨I4, go4⟩ := put (.lst (xs.set j a)) (.lst (ws.set j v)) ⟨_, rfl, rw'.set (Rp.same go23.sF ra) j⟩
      exact ⟨p, ws, n, j, rfl, ry, hp, by rw [rw'.length]; exact hj, k F3 _ fp3 σ I4 ((go1.trans go23).trans go4)⟩
    | _ => cases e
  | _ => cases e
/-! ## dicts -/
def putZ {κ β : Type} [DecidableEq κ] : List κ → List β → κ → β → List κ × List β
  | k :: ks, x :: xs, q, y => if k = q then (k :: ks, y :: xs) else ((k :: (putZ ks xs q y).1), x :: (putZ ks xs q y).2)
  | _, _, q, y => ([q], [y])
def putD (fl : Fl) (k a : A) : Option Fl := match fl with
  | .dK ks xs => (keyA k).bind fun q => if ks.Nodup ∧ ks.length < sizeLine then some (.dK (putZ ks xs q a).1 (putZ ks xs q a).2) else none
  | .dT ks xs => (match k with | .tup l => keysA l | _ => none).bind fun q => if ks.Nodup ∧ ks.length < sizeLine then some (.dT (putZ ks xs q a).1 (putZ ks xs q a).2) else none
  | _ => none
def gDPut (pk : Bool) (gv : Env → Option (A × Env)) (g gk : G) : GS := fun env => (gv env).bind fun p => (g p.2).bind fun q => if (!q.1.isPf || pk) then (gOne gk q.2).bind fun z => (getP z.2 q.1).bind fun fl => (putD fl z.1 p.1).map fun fl' => (.nx, putP z.2 q.1 fl')
  else none
/-- {} -/
def gDNew (o : Fl) : G := fun env => some (.ow (.fl o), env)
/-! ## x += e -/
end
end Dl
namespace Dl
open PySem PySem.Spec L2
section
variable {cl : Nat → Addr} {kp : List Nat} {τ σ : L2.St} {F F' H H' : Hp} {fp : Nat → Addr → Prop} {env : Env} {S : Addr → Prop} {K : PySem.W.Frag} {Eh : XK}
/-! ## o.f = e -/
/-- the value of a field -/
def toFl : R → Env → Option (Fl × Env)
  | .ow (.fl f), env => some (f, env)
  | r, env => (r.settle false env).map fun p => (.fz p.1, p.2)
def gSetF (i c : Nat) (n : Str) (g : G) : GS := fun env => (g env).bind fun p => (toFl p.1 p.2).bind fun q => match q.2[i]? with
  | some (.ins c' ns fs) => if c' = c ∧ ns.length = fs.length ∧ fs.length < 1000 then some (.nx, q.2.set i (.ins c (putZ ns fs n q.1).1 (putZ ns fs n q.1).2)) else none
  | _ => none
end
end Dl
namespace Dl
open PySem PySem.Spec L2
/-! ## slices -/
def SP (cl : Nat → Addr) (kp : List Nat) (t : TO) (g : Env → Option (Option Int)) : Prop :=
  ∀ ⦃τ : L2.St⦄ ⦃F H : Hp⦄ ⦃fp : Nat → Addr → Prop⦄ ⦃env : Env⦄ ⦃σ : L2.St⦄ ⦃Q : Option Int → Hp → Prop⦄ ⦃o : Option Int⦄, Rs cl kp τ F H fp env σ → g env = some o →
    (∀ F' H', Rs cl kp τ F' H' fp env σ → Go F H (U fp) F' H' (U fp) → Same H H' → Q o H') → t σ H Q
def cutA (xs : List A) (lo hi : Option Int) : List A := (xs.drop (HT.sIx xs.length 0 lo)).take (HT.sIx xs.length xs.length hi - HT.sIx xs.length 0 lo)
section
variable {cl : Nat → Addr} {kp : List Nat} {τ σ : L2.St} {F F' H H' : Hp} {fp : Nat → Addr → Prop} {env : Env} {S : Addr → Prop} {K : PySem.W.Frag}
def gP0 : Env → Option (Option Int) := fun _ => some none
def gP1 (g : G) : Env → Option (Option Int) := fun env => (gOne g env).bind fun p => p.1.int?.map some
theorem sp_none : SP cl kp tNoPart gP0 := by
  intro τ F H fp env σ Q o I e k
  cases e
  exact k F H I Go.refl (Same.refl _)
theorem sp_some {t : TE} {g : G} (h : SE cl kp true t g) : SP cl kp (tPart t) (gP1 g) := by
  intro τ F H fp env σ Q o I e k
  obtain ⟨⟨a, e1⟩, h1, e⟩ := Option.bind_eq_some_iff.mp e
  obtain ⟨i, hi, z⟩ := Option.map_eq_some_iff.mp e
  cases z
  refine se_one (W := fun x H1 => ∃ i, x = .int i ∧ Q (some i) H1) h I h1 fun F1 H1 fp1 x I1 go r pu => ?_
  obtain ⟨p1, p2, p3⟩ := pu rfl
  subst p1 p2
  cases int?_inv hi
  exact ⟨i, r, k F1 H1 I1 go p3⟩
/-- the parts of a slice -/
def gSl3 (g : G) (gl gh : Env → Option (Option Int)) : Env → Option (A × Option Int × Option Int × Env) := fun env => (g env).bind fun p => if p.1.tmp.isOw then none else (gl p.2).bind fun l => (gh p.2).bind fun u => (p.1.tmp.vw p.2).map fun a => (a, l, u, p.2)
theorem se_sl3 {pu : Bool} {t : TE} {tl th : TO} {g : G} {gl gh : Env → Option (Option Int)} (h : SE cl kp pu t g) (hl : SP cl kp tl gl) (hh : SP cl kp th gh) {a : A} {l u : Option Int} {env' : Env} {W : V → Option Int → Option Int → Hp → Prop}
    (I : Rs cl kp τ F H fp env σ) (e : gSl3 g gl gh env = some (a, l, u, env')) (k : ∀ F' H' fp' x, Rs cl kp τ F' H' fp' env' σ → Go F H (U fp) F' H' (U fp') → Rv cl F' H' a x → (pu = true → env' = env ∧ fp' = fp ∧ Same H H') → W x l u H') :
    t σ H fun x H1 => tl σ H1 fun l H2 => th σ H2 fun u H3 => W x l u H3 := by
  obtain ⟨⟨r, e1⟩, h1, e⟩ := Option.bind_eq_some_iff.mp e
  split at e
  case isTrue => cases e
  rename_i c
  obtain ⟨l', hl', e⟩ := Option.bind_eq_some_iff.mp e
  obtain ⟨u', hu', e⟩ := Option.bind_eq_some_iff.mp e
  obtain ⟨b, hb, z⟩ := Option.map_eq_some_iff.mp e
  cases z
  have g1 : gT g env = some (r.tmp, e1) := by unfold gT; rw [h1]; rfl
  refine h.tmp I g1 fun F1 H1 fp1 S x I1 go1 rr pu1 => ?_
  refine hl I1 hl' fun F2 H2 I2 go2 s2 => ?_
  refine hh I2 hu' fun F3 H3 I3 go3 s3 => ?_
  have rr3 : RR cl F3 H3 fp1 σ r.tmp x S := rr.keep (by simpa using c) (go2.sF.trans go3.sF) fun _ => s2.trans s3
  refine k F3 H3 fp1 x I3 (((go1.mono fun p z => .inl z).trans go2).trans go3) (rr3.rv I3 hb) fun z => ?_
  obtain ⟨p1, p2, p3⟩ := pu1 z
  exact ⟨p1, p2, p3.trans (s2.trans s3)⟩
def gSlL (g : G) (gl gh : Env → Option (Option Int)) : G := fun env => (gSl3 g gl gh env).bind fun p => p.1.lsts.map fun xs => (.ow (.fl (.lst (cutA xs p.2.1 p.2.2.1))), p.2.2.2)
def gOpU (pb : Bool) (f : A → A → Option (List A)) (ga gb : G) : G := fun env => (gTwo pb ga gb env).bind fun p => (f p.1 p.2.1).map fun c => (.fz (.tup c), p.2.2)
def fSlS (a : A) (l u : Option Int) : Option A := match a with
  | .str z => if z.length ≤ sizeLine then some (.str (cutS z l u)) else none
  | _ => none
def gSlS (g : G) (gl gh : Env → Option (Option Int)) : G := fun env => (gSl3 g gl gh env).bind fun p => (fSlS p.1 p.2.1 p.2.2.1).map fun a => (.fz a, p.2.2.2)
theorem se_slS {pu : Bool} {t : TE} {tl th : TO} {g : G} {gl gh : Env → Option (Option Int)} (h : SE cl kp pu t g) (hl : SP cl kp tl gl) (hh : SP cl kp th gh) : SE cl kp pu (tSl rSlS t tl th) (gSlS g gl gh) := by
  intro τ F H fp env σ Q r env' I e k
  obtain ⟨⟨a, l, u, e1⟩, h1, e⟩ := Option.bind_eq_some_iff.mp e
  obtain ⟨c, hc, z⟩ := Option.map_eq_some_iff.mp e
  cases z
  refine se_sl3 (W := fun x l u H3 => rSlS x l u H3 Q) h hl hh I h1 fun F1 H1 fp1 x I1 go ra pu1 => ?_
  cases a with
  | str y =>
    have hc : (if y.length ≤ sizeLine then some (A.str (cutS y l u)) else none) = some c := hc
    split at hc
    · rename_i z
      cases hc
      exact ⟨y, ra, z, k F1 H1 fp1 (fun _ => False) _ I1 (go.mono fun p z => z.elim id False.elim) rfl pu1⟩
    · cases hc
  | _ => cases hc
/-! ## texts by their methods -/
def MsI (cl : Nat → Addr) (r : V → List V → Hp → VK → Prop) (f : Str → List A → Option A) : Prop := ∀ ⦃F H : Hp⦄ ⦃z : Str⦄ ⦃as : List A⦄ ⦃vs : List V⦄ ⦃c : A⦄ ⦃Q : VK⦄, Same F H → RpL cl F as vs → f z as = some c → (∀ v, Rp cl F c v → Q v H) → r (.str z) vs H Q
def gMs (f : Str → List A → Option A) (g : G) (ga : Env → Option (List A × Env)) : G := fun env => (gOne g env).bind fun p => p.1.str?.bind fun z => (ga p.2).bind fun q => (f z q.1).map fun c => (.fz c, q.2)
theorem se_ms {pu pa : Bool} {t : TE} {ta : TA} {g : G} {ga : Env → Option (List A × Env)} {r : V → List V → Hp → VK → Prop} {f : Str → List A → Option A} (hr : MsI cl r f) (h : SE cl kp pu t g) (ha : SA cl kp pa ta ga) :
    SE cl kp (pu && pa) (tBM K "str" r t ta) (gMs f g ga) := by
  intro τ F H fp env σ Q z env' I e k
  obtain ⟨⟨a, e1⟩, h1, e⟩ := Option.bind_eq_some_iff.mp e
  obtain ⟨z, hz, e⟩ := Option.bind_eq_some_iff.mp e
  obtain ⟨⟨as, e2⟩, h2, e⟩ := Option.bind_eq_some_iff.mp e
  obtain ⟨c, hc, q⟩ := Option.map_eq_some_iff.mp e
  cases q
  refine se_one (W := fun x H1 => tyV K "str" x H1 ∧ ta σ H1 fun xs H2 => r x xs H2 Q) h I h1 fun F1 H1 fp1 x I1 go1 rx pu1 => ?_
  cases str?_inv hz
  cases (show x = V.str z from rx)
  refine ⟨rfl, ha I1 h2 fun F2 H2 fp2 vs I2 go2 rl pu2 => ?_⟩
  exact hr I2.le rl hc fun v rv => k F2 H2 fp2 (fun _ => False) v I2 ((go1.trans go2).mono fun p z => z.elim id False.elim) rv (pu_and pu1 pu2)
def mJoin (z : Str) : List A → Option A
  | [a] => a.items.bind fun xs => (strs? xs).bind fun ss => if (ss.map (·.length)).sum + ss.length * z.length ≤ 16777216 then some (.str (Txt.join z ss)) else none
  | _ => none
theorem RpL.sg {a : A} {vs : List V} (h : RpL cl F [a] vs) : ∃ v, vs = [v] ∧ Rp cl F a v := by
  obtain ⟨v, r, rfl, q, rfl⟩ := h
  exact ⟨v, rfl, q⟩
theorem ms_join : MsI cl (fun x xs H Q => ∃ a p, ∃ ys : List Str, x = .str a ∧ xs = [.ref p] ∧ (SqL K H p (ys.map V.str) ∨ SqT K H p (ys.map V.str)) ∧ (ys.map (·.length)).sum + ys.length * a.length ≤ 16777216 ∧ Q (.str (Txt.join a ys)) H) mJoin := by
  intro F H z as vs c Q s rl e k
  unfold mJoin at e
  split at e
  · obtain ⟨xs, hx, e⟩ := Option.bind_eq_some_iff.mp e
    obtain ⟨ss, hs, e⟩ := Option.bind_eq_some_iff.mp e
    split at e
    case isFalse => cases e
    rename_i hz
    cases e
    obtain ⟨v, rfl, r⟩ := rl.sg
    obtain ⟨p, us, rfl, q, ru⟩ := Rv.items (K := K) s (Rp.rv s r) hx
    rw [strs_rp ru hs] at q
    exact ⟨z, p, ss, rfl, rfl, q, hz, k _ rfl⟩
  · cases e
/-! ## truth -/
def A.tru : A → Option Bool
  | .non => some false | .bl b => some b | .int i => some (i != 0)
  | .str y => if y.length ≤ sizeLine then some ((y.length : Int) != 0) else none
  | .lst xs => some (!xs.isEmpty) | .tup xs => some (!xs.isEmpty)
  | _ => none
def gTru (g : G) : Env → Option (Bool × Env) := fun env => (gOne g env).bind fun p => p.1.tru.map fun b => (b, p.2)
end
end Dl
namespace Dl
open PySem PySem.Spec L2

/-! ## settled values, alternatives, comprehensions of two clauses -/
section
variable {cl : Nat → Addr} {kp : List Nat} {τ σ : L2.St} {F F' H H' : Hp} {fp : Nat → Addr → Prop} {env : Env} {S : Addr → Prop} {K : PySem.W.Frag}
def gFr (pu : Bool) (g : G) : G := fun env => (gS pu g env).map fun p => (.fz p.1, p.2)
theorem SE.fr {pu : Bool} {t : TE} {g : G} (h : SE cl kp pu t g) : SE cl kp false t (gFr false g) := by
  intro τ F H fp env σ Q r env' I e k
  obtain ⟨⟨a, e1⟩, h1, z⟩ := Option.map_eq_some_iff.mp e
  cases z
  have h' : SE cl kp false t g := fun τ F H fp env σ Q r env' I e k => h I e fun F' H' fp' S v a b c _ => k F' H' fp' S v a b c fun z => nomatch z
  exact h'.sf I h1 fun F' H' fp' v I' go r pu => k F' H' fp' (fun _ => False) v I' (go.mono fun p z => z.elim id False.elim) r fun z => nomatch z
theorem SE.imp {pu : Bool} {t : TE} {g : G} (h : SE cl kp pu t g) : SE cl kp false t g := fun τ F H fp env σ Q r env' I e k => h I e fun F' H' fp' S v a b c _ => k F' H' fp' S v a b c fun z => nomatch z
def tAlt (t u : TE) : TE := fun σ H Q => t σ H Q ∨ u σ H Q
def gAlt (g h : G) : G := fun env => match g env with
  | some r => some r
  | none => h env
def gAltT (g h : Env → Option (Bool × Env)) : Env → Option (Bool × Env) := fun env => match g env with
  | some r => some r
  | none => h env
def gItAlt (g h : Env → Option (List A × Env)) : Env → Option (List A × Env) := fun env => match g env with
  | some r => some r
  | none => h env
/-! ### two clauses -/
/-- where a comprehension's block stands: its list at D, apart from all that is known -/
structure Blk (cl : Nat → Addr) (kp : List Nat) (τ : L2.St) (F0 H0 : Hp) (fp0 : Nat → Addr → Prop) (D : Addr) (F H : Hp) (fp : Nat → Addr → Prop) (env : Env) (σ : L2.St) (acc : List A) (ws : List V) : Prop where
  I : Rs cl kp τ F H fp env σ
  go : Go F0 H0 (fun p => U fp0 p ∨ p = D) F H (fun p => U fp p ∨ p = D)
  ap : Apart D F H fp
  hd : H D = some (.lst ws)
  rp : RpL cl F acc ws
section
variable {F0 H0 : Hp} {fp0 : Nat → Addr → Prop} {D : Addr} {acc : List A} {ws : List V}
theorem Blk.step (b : Blk cl kp τ F0 H0 fp0 D F H fp env σ acc ws) {F' H' : Hp} {fp' : Nat → Addr → Prop} {env' : Env} {σ' : L2.St} (I' : Rs cl kp τ F' H' fp' env' σ') (g : Go F H (U fp) F' H' (U fp')) : Blk cl kp τ F0 H0 fp0 D F' H' fp' env' σ' acc ws := by
  obtain ⟨ap, hd⟩ := b.ap.go b.hd rfl g
  exact ⟨I', b.go.trans (g.join (by rw [b.hd]; exact fun z => nomatch z)), ap, hd, RpL.same g.sF b.rp⟩
theorem Blk.wipe (b : Blk cl kp τ F0 H0 fp0 D F H fp env σ acc ws) {vs : List Nat} (hk : ∀ i ∈ kp, i ∉ vs) : Blk cl kp τ F0 H0 fp0 D F H fp (wipeE env vs) (L2.wipe σ vs) acc ws := ⟨b.I.wipe hk, b.go, b.ap, b.hd, b.rp⟩
theorem Blk.push (b : Blk cl kp τ F0 H0 fp0 D F H fp env σ acc ws) {c : A} {u : V} (r : Rp cl F c u) : Blk cl kp τ F0 H0 fp0 D F (upd H D (.lst (ws ++ [u]))) fp env σ (acc ++ [c]) (ws ++ [u]) :=
  ⟨b.I.apart rfl b.ap.nU b.ap.nF, b.go.apart rfl, ⟨b.ap.nU, b.ap.nF⟩, upd_same, b.rp.app (RpL.one r)⟩
end
end
end Dl
namespace L2
open PySem PySem.Spec PyProof.Rows
end L2
namespace Dl
open PySem PySem.Spec L2
section
variable {cl : Nat → Addr} {kp : List Nat} {τ σ : L2.St} {F F' H H' : Hp} {fp : Nat → Addr → Prop} {env : Env} {S : Addr → Prop} {K : PySem.W.Frag}
def fLenK : A → Option A
  | .dK ks _ => some (.int ks.length) | .dT ks _ => some (.int ks.length) | _ => none
end
end Dl
namespace Dl
open PySem PySem.Spec L2

/-! ## walking a dict that stays: it is locked meanwhile -/
def DictHO : HO → Prop
  | .dK _ => True
  | .dT _ => True
  | _ => False
theorem DictHO.nt {u : HO} (h : DictHO u) : HOtup u = false := by cases u <;> first | exact h.elim | rfl
/-- two heaps that differ at a dict's lock only -/
structure Swap (d : Addr) (u : HO) (F F2 : Hp) : Prop where
  dk : DictHO u
  at1 : F d = some u ∨ ∃ o, F d = some (.frz o u)
  at2 : F2 d = some u ∨ ∃ o, F2 d = some (.frz o u)
  off : ∀ p, p ≠ d → F2 p = F p
section
variable {cl : Nat → Addr} {kp : List Nat} {τ σ : L2.St} {F F' H H' : Hp} {fp : Nat → Addr → Prop} {env : Env} {S : Addr → Prop} {K : PySem.W.Frag}
theorem Swap.keep {d : Addr} {u : HO} {F2 : Hp} (s : Swap d u F F2) {p : Addr} {o : HO} (h : F p = some o) (n1 : ¬ DictHO o) (n2 : ∀ x y, o ≠ .frz x y) : F2 p = some o := by
  by_cases c : p = d
  · subst c
    rcases s.at1 with a | ⟨x, a⟩
    · rw [h] at a; cases a; exact (n1 s.dk).elim
    · rw [h] at a; cases a; exact (n2 _ _ rfl).elim
  · rw [s.off p c]; exact h
/-! ### where the dict is -/
def lcV (i : Nat) : Env → Option A := fun env => match env[i]? with
  | some (.fl (.fz a)) => some a
  | _ => none
end
end Dl
/-! dict comprehensions whose keys may be tuples of ints and texts: the pair is put as d[k] = v puts it -/
namespace L2
open PySem PySem.Spec PyProof.Rows
section
variable {X : Cx}
/-- what a new empty dict may be taken for -/
def Empty0 (o : HO) : Prop := o = .dK [] ∨ o = .dT []
theorem Empty0.ok {P : Program} {w : World} {H : Hp} {o : HO} (e : Empty0 o) (h : Heap) (hb : sysModules < h.objs.size) : ObjOk P w H (h.push { cls := .type "dict", data := .dict #[] }) h.objs.size o := by
  rcases e with rfl | rfl
  · exact dk_empty h hb
  · exact dt_empty h hb
end
end L2
namespace Dl
open PySem PySem.Spec L2

def keyT : Key → A
  | .inl i => .int i
  | .inr s => .str s
def A.keysD : A → Option (List A)
  | .dK ks _ => some (ks.map keyT)
  | .dT ks _ => some (ks.map fun l => .tup (l.map keyT))
  | _ => none
section
variable {cl : Nat → Addr} {kp : List Nat} {τ σ : L2.St} {F F' H H' : Hp} {fp : Nat → Addr → Prop} {env : Env} {S : Addr → Prop} {K : PySem.W.Frag} {Eh : XK}
/-! ### for over a dict -/
def tAltS (t u : TS) : TS := fun D σ H => t D σ H ∨ u D σ H
/-- no error leaves the loop -/
def noEr : Fo × Env → Option (Fo × Env)
  | (.er _, _) => none
  | p => some p
def gForD (sel : A → Option (List A)) (loc : Env → Option A) (h : A → Env → Option Env) (b : GS) : GS := fun env => (loc env).bind fun a => (sel a).bind fun xs => (loopG h b xs env).bind noEr
/-! ### a list comprehension over a dict -/
/-! ### dict comprehensions -/
structure BlkD (cl : Nat → Addr) (kp : List Nat) (τ : L2.St) (F0 H0 : Hp) (fp0 : Nat → Addr → Prop) (D : Addr) (F H : Hp) (fp : Nat → Addr → Prop) (env : Env) (σ : L2.St) (acc : Fl) (o : HO) : Prop where
  I : Rs cl kp τ F H fp env σ
  go : Go F0 H0 (fun p => U fp0 p ∨ p = D) F H (fun p => U fp p ∨ p = D)
  ap : Apart D F H fp
  hd : H D = some o
  rp : FlO cl F acc o
section
variable {F0 H0 : Hp} {fp0 : Nat → Addr → Prop} {D : Addr} {acc : Fl} {ob : HO}
theorem BlkD.step (b : BlkD cl kp τ F0 H0 fp0 D F H fp env σ acc ob) {F' H' : Hp} {fp' : Nat → Addr → Prop} {env' : Env} {σ' : L2.St} (I' : Rs cl kp τ F' H' fp' env' σ') (g : Go F H (U fp) F' H' (U fp')) : BlkD cl kp τ F0 H0 fp0 D F' H' fp' env' σ' acc ob := by
  obtain ⟨ap, hd⟩ := b.ap.go b.hd b.rp.nt g
  exact ⟨I', b.go.trans (g.join (by rw [b.hd]; exact fun z => nomatch z)), ap, hd, FlO.same g.sF b.rp⟩
theorem BlkD.wipe (b : BlkD cl kp τ F0 H0 fp0 D F H fp env σ acc ob) {vs : List Nat} (hk : ∀ i ∈ kp, i ∉ vs) : BlkD cl kp τ F0 H0 fp0 D F H fp (wipeE env vs) (L2.wipe σ vs) acc ob := ⟨b.I.wipe hk, b.go, b.ap, b.hd, b.rp⟩
theorem BlkD.put (b : BlkD cl kp τ F0 H0 fp0 D F H fp env σ acc ob) {acc' : Fl} {ob' : HO} (r : FlO cl F acc' ob') : BlkD cl kp τ F0 H0 fp0 D F (upd H D ob') fp env σ acc' ob' :=
  ⟨b.I.apart r.nt b.ap.nU b.ap.nF, b.go.apart r.nt, ⟨b.ap.nU, b.ap.nF⟩, upd_same, r⟩
end
theorem FlO.fl {p : Addr} {f : Fl} {o : HO} (h : FlO cl F f o) (hp : H p = some o) : OR cl F H (fun q => q = p) (.fl f) (.ref p) := FlR.of_root rfl hp h
end
end Dl
namespace L2
open PySem PySem.Spec PyProof.Rows
/-! ## own specials of an instance: len, str, a field of an f-string -/
section
variable {X : Cx} {CX : CXT} {k : Nat} {C f : Addr} {fd : FuncData} {ps : List Str} {sp : Sp} {E : XK}
end
end L2
namespace Dl
open PySem PySem.Spec L2
/-! ## instances are made, their arguments by reference -/
section
variable {cl : Nat → Addr} {kp : List Nat} {τ σ : L2.St} {F F' H H' : Hp} {fp : Nat → Addr → Prop} {env : Env} {S : Addr → Prop} {K : PySem.W.Frag}
def makeG (c : Nat) (f : GF) (rs : List R) (env : Env) : Option (R × Env) := (callG f (.pl env.length :: rs) (env ++ [.ins c [] []])).bind fun p => match p.1 with
  | .fz .non => (p.2[env.length]?).map fun o => (.ow o, p.2.take env.length)
  | _ => none
theorem app_lt {α : Type} {l : List α} {x : α} {i : Nat} {y : α} (h : l[i]? = some y) : (l ++ [x])[i]? = some y := by
  rw [List.getElem?_append_left (List.getElem?_eq_some_iff.mp h).1]; exact h
theorem app_at {α : Type} {l : List α} {x y : α} {i : Nat} (h : (l ++ [x])[i]? = some y) : l[i]? = some y ∨ (i = l.length ∧ y = x) := by
  by_cases c : i < l.length
  · rw [List.getElem?_append_left c] at h; exact .inl h
  · rw [List.getElem?_append_right (by omega)] at h
    have : i - l.length = 0 := by
      cases e : i - l.length with
      | zero => rfl
      | succ n => rw [e] at h; simp at h
    rw [this] at h
    simp at h
    exact .inr ⟨by omega, h.symm⟩
/-- one more slot -/
theorem Rs.more (I : Rs cl kp τ F H fp env σ) {o : O} {v : V} {S : Addr → Prop} (h : OR cl F H S o v) (n : ∀ p, S p → F p = none ∧ Nt H p ∧ ¬ U fp p) :
    Rs cl kp (τ ++ [some v]) F H (fun i p => (i < env.length ∧ fp i p) ∨ (i = env.length ∧ S p)) (env ++ [o]) (σ ++ [some v]) := by
  have ls := I.len
  have lt := I.tl
  refine ⟨by simp [ls], fun i x hx => ?_, fun i j p a b => ?_, fun i p a => a.elim (fun z => I.sep i p z.2) fun z => (n p z.2).1, fun i p a => a.elim (fun z => I.dom i p z.2) fun z => (n p z.2).2.1, I.le, fun i hi => ?_, by simp [lt]⟩
  · rcases app_at hx with hx | ⟨rfl, rfl⟩
    · have hl := (List.getElem?_eq_some_iff.mp hx).1
      exact (I.slot i x hx).imp id fun ⟨v, a, b⟩ => ⟨v, app_lt a, OR.sub (fun p z => .inl ⟨hl, z⟩) b⟩
    · refine .inr ⟨v, ?_, OR.sub (fun p z => .inr ⟨rfl, z⟩) h⟩
      rw [List.getElem?_append_right (by omega), ls]; simp
  · rcases a with ⟨a1, a2⟩ | ⟨a1, a2⟩ <;> rcases b with ⟨b1, b2⟩ | ⟨b1, b2⟩
    · exact I.dis i j p a2 b2
    · exact ((n p b2).2.2 ⟨i, a2⟩).elim
    · exact ((n p a2).2.2 ⟨j, b2⟩).elim
    · omega
  · have := I.pro i hi
    by_cases c : i < σ.length
    · rw [List.getElem?_append_left c, List.getElem?_append_left (by omega)]; exact this
    · rw [List.getElem?_append_right (by omega), List.getElem?_append_right (by omega), lt]
theorem RRs.more {x : Option V} : ∀ {rs : List R} {vs : List V}, RRs cl F σ rs vs → RRs cl F (σ ++ [x]) rs vs
  | [], _, h => h
  | .fz a :: rs, _, h => let ⟨v, r, e, q, z⟩ := h; ⟨v, r, e, q, RRs.more z⟩
  | .pl i :: rs, _, h => let ⟨v, r, e, q, z⟩ := h; ⟨v, r, e, app_lt q, RRs.more z⟩
  | .pf _ _ :: _, _, h => h.elim
  | .ow _ :: _, _, h => h.elim
def gMakeR (c : Nat) (f : GF) (ds : List A) (g : Env → Option (List R × Env)) : G := fun env => (g env).bind fun p => makeG c f (p.1 ++ ds.map .fz) p.2
/-! ### with an empty dict behind the arguments: a ** parameter -/
/-! ### own specials -/
/-! ### f-strings -/
end
end Dl
namespace PySem
open AutoSeq1 (wpAny_loadPart')
section
variable {prog : Program} {w : World} {A : Around} {E : Value → Shared → Prop} {s : Shared}
end
end PySem
namespace L2
open PySem PySem.Spec PyProof.Rows
end L2
namespace L2
open PySem PySem.Spec PyProof.Rows
/-! ## enumerate(a text) -/
end L2
/-! ## super().__init__(e) ahead of an own exception's stores -/
namespace SupX
open PySem PySem.Spec PyProof.Rows PySem.W L2
section
variable {prog : Program} {w : World} {A : Around} {E : Value → Shared → Prop} {h : Heap} {g : Array GenState} {d : Drawn} {t : Nat} {os : OsState}
variable {nm q : Str} {C N : Addr} {bs bm : List Value} {hdct : Bool} {sn : List Str} {sub : List Value} {ab : Bool} {col : Option Bool} {dd : Option Addr} {k0 k1 k2 k3 k5 : Option Value}
/-- the bound wrapper of ValueError.__init__ is called: the error's args are laid anew -/
theorem call_kw {u e t0 : Addr} {ws : List Value} {Q : Value → Shared → Prop} (oC : h.get? C = some (excClassObj nm q C N bs bm hdct sn sub ab col dd k0 k1 k2 k3 k5 "ValueError.__new__")) (oe : h.get? e = some (HandSPX.excO C t0))
    (ou : h.get? u = some (kxs_mw "ValueError.__init__" e)) (small : ws.length ≤ sizeLine) (k : ∀ h1 t1, (∀ b o, b ≠ e → h.get? b = some o → h1.get? b = some o) → h1.get? e = some (HandSPX.excO C t1) → Q .none ⟨h1, g, d, t, os⟩) :
    wpAny (model prog w) A (call (.ref u) ws) Q E ⟨h, g, d, t, os⟩ := by
  have FB := F.excBase_ValueError
  apply wpAny_call
  apply codeAny_of_tree
  change wpAny _ A.in1 (callAny (.ref u) ⟨ws, []⟩) _ _ _
  unfold callAny
  apply wpAny_bind
  apply wpAny_load ou
  have kind : (((kxs_mw "ValueError.__init__" e).cls == .type "method" || (kxs_mw "ValueError.__init__" e).cls == .type "builtin_function_or_method") || (kxs_mw "ValueError.__init__" e).cls == .type "method-wrapper") = true := by
    have z : (kxs_mw "ValueError.__init__" e).cls = .type "method-wrapper" := rfl
    rw [z]
    decide
  refine W.KFB.if_so kind (wpAny_bind (check_bound_init FB.toExcCallFacts oC oe rfl (wpAny_bind (wpAny_pure (wpAny_pure ?_)))))
  refine ⟨plainId_quiet FB.init.plain _, codeAny_builtin FB.initEntry ?_⟩
  exact exc_init_tree (cls := .ref C) (t0 := t0) (dv := none) (c2 := .none) (c3 := .none) (b4 := .bool false) oe small fun h1 k1 e1 _ => k h1 _ k1 e1
end
/-- a body's end, told as a call's end -/
theorem ce_of {X : Cx} (ex : X.ex = []) {Q : VK} : ∀ {fl : Flow} {s' : Shared}, SP X [] { nx := fun _ H' => Q .non H', rt := Q } fl s' → CR CX0 X.outer X.prog X.w X.H_0 X.s_0 Q E0 (.ok (.ret (match fl with | .ret v => v | _ => .none))) s'
  | .ret _, _, ⟨v, _, H1, J, r, k⟩ => ⟨v, H1, J.os, J.bare, ex ▸ J.base, J.hok, r, k⟩
  | .next, _, ⟨_, H1, J, k⟩ => ⟨.non, H1, J.os, J.bare, ex ▸ J.base, J.hok, rfl, k⟩
  | .brk, _, ⟨_, _, _, k⟩ => k.elim
  | .cont, _, ⟨_, _, _, k⟩ => k.elim
/-- what the written part says of an own exception's __init__ that begins with super().__init__ -/
structure SupC (P : Program) (K : PySem.W.Frag) (mg : Str → Option Value) (C : Addr) : Prop where
  T : OexC K C
  self : mroIn K C (.ref C) = some true
  noS : mg "super" = none
  top : (P.main.scope.names.lookup ("super" : Str)).isSome = false
  st : nsIn K cStatics "thirdparty.any" = some none
  al : ks_superIn K C C "__init__" = some (some (.builtin "ValueError.__init__"))
  vE : subIn K (.ref C) (.type "ValueError") = some true
section
variable {P : Program} {w : World} {K : PySem.W.Frag} {mg : Str → Option Value} {base : Heap} {CX : CXT} {k : Nat} {f cda cc C : Addr} {name qual : Str} {params : Arguments} {rest : List Stmt} {scope : Scope} {kV doc pm ct oc ccl cl : Value} {an od cdd cld : Option Addr} {osl ccs csl : Array (Option Value)}
  {vs0 : Array Value} {file : Str} {tf : Tok} {ps N : List Str} {sp : Sp} {p0 p1 p2 pos pos' : Pos} {arg : Expr} {ar : Arg}
abbrev nfOf (name qual : Str) (params : Arguments) (body : List Stmt) (scope : Scope) (cc cda : Addr) : NdefX.NF := ⟨name, qual, params, body, scope, [("__class__", cc)], cda⟩
theorem fn_sup (U : SupC P K mg C)
    (lk : K.lookup f = some ⟨oc, od, .func (ksFn name qual params (.Expr (.Call (.Attribute (.Call (.Name "super" p0) [] [] p1) "__init__" p2) [arg] [] pos) pos' :: rest) scope .none kV doc pm an (.ref cda) ct cc), osl⟩)
    (hcd : codeIn K (.ref cda) qual = true) (hcode : K.lookup cda = some ⟨ccl, cdd, .fields vs0, ccs⟩) (hvs : vs0[2]? = some (.str file tf)) (hfile : ((P.main.file : Str) == file) = true)
    (hcell : K.lookup cc = some ⟨cl, cld, .cell (some (.ref C)), csl⟩)
    (S : NdefX.NScope N ps ["__class__"] scope) (hks : scope.names.lookup ("super" : Str) = some .globalImplicit) (hp : (params.posonlyargs ++ params.args).head? = some ar) (hps : ps.head? = some ar.arg)
    (hev : ∀ env : Env, ∃ pl, eval (.Call (.Attribute (.Call (.Name "super" p0) [] [] p1) "__init__" p2) [arg] [] pos) env = (do
      let ov ← attributeBase (.Call (.Name "super" p0) [] [] p1) "__init__" env (eval (.Call (.Name "super" p0) [] [] p1) env)
      standAt p2.atName
      let (f, first) ← holding [ov] (getMethod ov "__init__" pl)
      callWith pos f first (backTo pos (starEach [arg] env)) []))
    (hse : ∀ env, starEach [arg] env = (false, eval arg env) :: starEach [] env) (hsw : ∀ env, swapsWith (.Call (.Attribute (.Call (.Name "super" p0) [] [] p1) "__init__" p2) [arg] [] pos) none pos'.line env = pure false)
    (len : ∀ vs H Q E, sp vs H Q E → vs.length = ps.length)
    (hbody : ∀ (A : Around) (outer : List Env) (s : Shared) (H : Hp) (vs : List V) (Q : VK) (E : XK), Room k (A.deeper (NdefX.envF (nfOf name qual params (.Expr (.Call (.Attribute (.Call (.Name "super" p0) [] [] p1) "__init__" p2) [arg] [] pos) pos' :: rest) scope cc cda) f s.heap.objs.size)) → sp vs H Q E →
      ∃ (a : Addr) (ta : TA) (t : TS), vs.head? = some (.ref a) ∧ H a = some (exo a C none) ∧
        PA (NdefX.ncx CX P w K mg base N (nfOf name qual params (.Expr (.Call (.Attribute (.Call (.Name "super" p0) [] [] p1) "__init__" p2) [arg] [] pos) pos' :: rest) scope cc cda) f A outer s H E) [arg] ta ∧
        PSs (NdefX.ncx CX P w K mg base N (nfOf name qual params (.Expr (.Call (.Attribute (.Call (.Name "super" p0) [] [] p1) "__init__" p2) [arg] [] pos) pos' :: rest) scope cc cda) f A outer s H E) rest t ∧
        ta (NdefX.startF N vs [none]) H (fun us H1 => us.length ≤ 1000 ∧ H1 a = some (exo a C none) ∧ t { nx := fun _ H' => Q .non H', rt := Q } (NdefX.startF N vs [none]) H1)) :
    FnOk P w K mg base CX (k + 1) f (ksFn name qual params (.Expr (.Call (.Attribute (.Call (.Name "super" p0) [] [] p1) "__init__" p2) [arg] [] pos) pos' :: rest) scope .none kV doc pm an (.ref cda) ct cc) ps sp := by
  constructor
  · exact len
  intro A outer s H args us vs Q E hr e0 hb r hsp
  have hl := len _ _ _ _ hsp
  have stays : ∀ b o, base.get? b = some o → s.heap.get? b = some o := fun b o e => (e0.bs b o e).1
  have KX := e0.mod.kin.keeps stays
  obtain ⟨a, ta, t, hva, hHa, hPA, hPS, hta⟩ := hbody A outer s H vs Q E (hr.deeper _) hsp
  refine ks_codeAny_call_defAt (fd := ksFn name qual params _ scope .none kV doc pm an (.ref cda) ct cc) (binds := ps.zip us) hr.depth (KX _ _ lk) rfl (e0.mod.nolimit.keeps stays) (codeRec_of KX hcd) rfl hb (fun y hy => S.nocell y hy) (fun y hy => S.par y.1 (List.of_mem_zip hy).1) (fun h₁ hns kp => ?_) S.co S.gen S.kind
  have hcl : ([("__class__", cc)] : List (Str × Addr)).lookup ("__class__" : Str) = some cc := by simp [List.lookup]
  have ccO : s.heap.get? cc = some ⟨cl, cld, .cell (some (.ref C)), csl⟩ := KX _ _ hcell
  have onlyc : ∀ y c, ([("__class__", cc)] : List (Str × Addr)).lookup y = some c → y = "__class__" ∧ c = cc := fun y c e => by
    by_cases hy : y = "__class__"
    · subst hy
      rw [hcl] at e
      exact ⟨rfl, (Option.some.inj e).symm⟩
    · have q : (y == ("__class__" : Str)) = false := by simpa using hy
      simp [List.lookup, q] at e
  have CA : NdefX.CellsAt [("__class__", cc)] ["__class__"] [none] s.heap H := {
    len := rfl
    all := fun y c e => by
      obtain ⟨_, rfl⟩ := onlyc y c e
      exact ⟨(e0.bs _ _ (e0.mod.kin _ _ hcell)).2, _, _, ccO, rfl⟩
    inj := fun x y c e1 e2 => by rw [(onlyc x c e1).1, (onlyc y c e2).1]
    has := fun i y e => by
      cases i with
      | zero =>
        cases e
        exact ⟨cc, hcl, fun v z => by cases z⟩
      | succ i => cases e }
  have I := NdefX.inv_startN (CX := CX) (F := nfOf name qual params (.Expr (.Call (.Attribute (.Call (.Name "super" p0) [] [] p1) "__init__" p2) [arg] [] pos) pos' :: rest) scope cc cda) (f := f) (E := E) (tk := s.toks + (ps.zip us).length) S hr.hd e0 hl r CA hns kp
  -- the object
  obtain ⟨u0, hu0, ru0⟩ : ∃ u0, us[0]? = some u0 ∧ RelV (.ref a) u0 := r.get (by rw [← List.head?_eq_getElem?]; exact hva)
  cases (show u0 = Value.ref a from ru0)
  have hself : (ps.zip us).reverse.lookup ar.arg = some (.ref a) := by
    have ndP : ps.Nodup := by
      have q := S.nd.sublist (List.take_sublist (ps.length + (["__class__"] : List Str).length) N)
      rw [S.pre] at q
      exact (List.nodup_append.mp q).1
    exact NdefX.zip_look (i := 0) ndP (by rw [← List.head?_eq_getElem?]; exact hps) hu0
  have hka : scope.names.lookup ar.arg = some .local := S.par _ (List.mem_of_getElem? (i := 0) (by rw [← List.head?_eq_getElem?]; exact hps))
  have hkc : scope.names.lookup ("__class__" : Str) = some .free := S.frk _ (by simp)
  have K1 : K.In h₁ := KX.keeps kp
  obtain ⟨nm, q, N', bs, bm, sn, sub, ab, col, dd, k0, k1, k2, k3, k5, hC, hbm⟩ := U.T.cls
  have hcd' : clsIn K C = some { name := nm, bases := bs, mro := .ref C :: bm, ns := N', qualname := q, hasDict := true, slotNames := sn, subclasses := sub, abstract := ab, collection := col, hasDel := false } := by unfold clsIn; rw [hC] <;> rfl
  obtain ⟨t1, ho⟩ := exo_at I.hok hHa
  obtain ⟨pl, hpl⟩ := hev (NdefX.envF (nfOf name qual params (.Expr (.Call (.Attribute (.Call (.Name "super" p0) [] [] p1) "__init__" p2) [arg] [] pos) pos' :: rest) scope cc cda) f s.heap.objs.size)
  refine ks_wpAt_execs_cons (ks_wpAt_Expr_any (ks_wpAt_MethodCall (pl := pl) ?_ hpl) (by show (scope.kind == .module && _) = false; rw [S.kind]; rfl) (hsw _))
  have oD : h₁.get? C = some (excClassObj nm q C N' bs bm true sn sub ab col dd k0 k1 k2 k3 k5 "ValueError.__new__") := K1 _ _ hC
  obtain ⟨mb, hb1, hb2⟩ := e0.mod.blt
  have bk : ∀ b o, base.get? b = some o → h₁.get? b = some o := fun b o e => kp b o (e0.bs b o e).1
  refine ks_wpAt_super_base (env := NdefX.envF (nfOf name qual params (.Expr (.Call (.Attribute (.Call (.Name "super" p0) [] [] p1) "__init__" p2) [arg] [] pos) pos' :: rest) scope cc cda) f s.heap.objs.size) hks hkc (by decide) rfl (K1 _ _ lk) rfl hp rfl (K1 _ _ hcode) rfl hvs hfile U.top ?_
  refine ks_loadName_global S.kind hks (Calls.loadGlobal_builtin (env := NdefX.envF (nfOf name qual params (.Expr (.Call (.Attribute (.Call (.Name "super" p0) [] [] p1) "__init__" p2) [arg] [] pos) pos' :: rest) scope cc cda) f s.heap.objs.size) (e0.mod.glob.keeps bk) U.noS (hb1.keeps bk) ((hb2 "super" (by decide)).trans (by decide +kernel : bootBuiltins "super" = some (.type "super"))) ⟨rfl, ?_⟩)
  refine wpAny_loadName_free S.kind hkc hcl ⟨_, K1 _ _ hcell, rfl⟩ ?_
  refine wpAny_loadName_local S.kind hka hns hself ?_
  refine ks_wpAny_isType_cls oD rfl ⟨rfl, ?_⟩
  refine ks_wpAny_call_super oD rfl ho rfl (fun c z => by cases z) (looks_mroIn K1 U.self) (fun h2 e2 k2 => ?_)
  have K2 : K.In h2 := K1.keeps k2
  have hx2 := k2 _ _ ho
  have Iat : InstAt h2 a { cls := .ref C, dict := none, data := .fields #[.ref t1, .none, .none, .none, .bool false, .none] } C none := ⟨hx2, rfl, rfl, trivial⟩
  have hal := U.al
  unfold ks_superIn at hal
  rw [hcd'] at hal
  have I2 := I.kept (h' := h2) (t' := s.toks + (ps.zip us).length + 1) k2
  refine kxs_getMethod kxs_ValueError e2 (looks_opaque K2 U.st) (l₀ := .ref C :: bm) (fun A Q E s k q => wpAny_bind ((looks_clsIn K2 hcd') A _ E s k (wpAny_pure q))) rfl K2 hal (Iat.type.andThen (looks_subIn K2 U.vE)) (ks_ne K2 Iat hcd') (by decide) ?_
  have I3 := I2.kept (h' := h2.push (kxs_mw "ValueError.__init__" a)) (t' := s.toks + (ps.zip us).length + 1) fun b o e => Heap.get?_push_of_some _ e
  have hu3 : (h2.push (kxs_mw "ValueError.__init__" a)).get? h2.objs.size = some (kxs_mw "ValueError.__init__" a) := Heap.get?_push_at rfl rfl
  have I4 := I3.pins_of (pins' := [(h2.objs.size, kxs_mw "ValueError.__init__" a)]) fun p hp => by
    rw [List.mem_singleton] at hp
    subst hp
    exact ⟨hu3, I2.hok.fresh (Nat.le_refl _), Nat.ne_of_gt I2.lt, I2.nofs (Nat.le_refl _), fun v z => by cases z⟩
  show wpAny _ _ (callWith pos (.ref h2.objs.size) [] (backTo pos (starEach [arg] (NdefX.envF (nfOf name qual params (.Expr (.Call (.Attribute (.Call (.Name "super" p0) [] [] p1) "__init__" p2) [arg] [] pos) pos' :: rest) scope cc cda) f s.heap.objs.size))) []) _ _ _
  have ev := hPA.run pos [(h2.objs.size, kxs_mw "ValueError.__init__" a)] _ _ H _ I4 hta
  rw [show (NdefX.ncx CX P w K mg base N (nfOf name qual params (.Expr (.Call (.Attribute (.Call (.Name "super" p0) [] [] p1) "__init__" p2) [arg] [] pos) pos' :: rest) scope cc cda) f A outer s H E).env = NdefX.envF (nfOf name qual params (.Expr (.Call (.Attribute (.Call (.Name "super" p0) [] [] p1) "__init__" p2) [arg] [] pos) pos' :: rest) scope cc cda) f s.heap.objs.size from rfl, hse] at ev
  rw [hse]
  refine kxs_callWith (i := "ValueError.__init__") (x := a) (by rfl) (Calls.evalArgs_plain (thn ev fun us1 s4 hh => ?_))
  obtain ⟨vs1, H1, J, r1, hlen, ha1, ht⟩ := hh
  have hu4 := (J.pin (h2.objs.size, kxs_mw "ValueError.__init__" a) (List.mem_append_right _ (by simp))).1
  refine ⟨hu4, ?_⟩
  obtain ⟨t2, ho4⟩ := exo_at J.hok ha1
  have hC4 := J.kIn _ _ hC
  obtain ⟨h4, g4, d4, t4, os4⟩ := s4
  show wpAny _ _ (call (.ref h2.objs.size) us1 []) _ _ _
  refine call_kw hC4 ho4 hu4 (by rw [← Paired.length r1, sizeLine_eq]; omega) fun h5 t5 k5 hx5 => ?_
  have J0 := J.pins_of (pins' := []) fun p hp => nomatch hp
  have J5 := J0.write (t' := t4) (x := a) (e := a) (o := exo a C none) (h' := h5) (by rw [ha1]; exact True.intro) (.inl rfl) k5 ⟨_, hx5⟩ (exo_ok hx5)
  have eu : upd H1 a (exo a C none) = H1 := by
    funext b
    by_cases hb : b = a
    · rw [hb, upd_same, ha1]
    · rw [upd_ne hb]
  rw [eu] at J5
  exact wpAt_of_wpAny (wpAny_mono (hPS.run [] _ _ H1 _ J5 ht) (fun fl s' hs => ce_of (X := NdefX.ncx CX P w K mg base N (nfOf name qual params (.Expr (.Call (.Attribute (.Call (.Name "super" p0) [] [] p1) "__init__" p2) [arg] [] pos) pos' :: rest) scope cc cda) f A outer s H E) rfl hs) fun e s' hs => hs)
end
end SupX
/-! ## super().m(..) of an instance: read in the body itself -/
namespace SupM
open PySem PySem.Spec PySem.W L2
open PyProof.Rows hiding wpAt wpAt_mono wpAt_bind
structure PEt (X : Cx) (body : List Stmt) (e : Expr) (t : TE) : Prop where
  run : ∀ (pins : List (Addr × Obj)) (s : Shared) (σ : L2.St) (H : Hp) (Q : VK), Inv X pins σ H s → t σ H Q → wpAt (model X.prog X.w) X.A (.func body X.env) (eval e X.env) (EP X pins σ Q) X.xe s
structure PSt (X : Cx) (body : List Stmt) (sts : List Stmt) (t : TS) : Prop where
  run : ∀ (pins : List (Addr × Obj)) (s : Shared) (σ : L2.St) (H : Hp) (D : Ends), Inv X pins σ H s → t D σ H → wpAt (model X.prog X.w) X.A (.func body X.env) (execs sts X.env) (SP X pins D) X.xe s
section
variable {X : Cx} {body rest sts : List Stmt} {e a b : Expr} {es : List Expr} {ta tb te : TE} {pos : Pos} {st : Stmt} {t u : TS}
theorem PEt.of (h : PE X e te) : PEt X body e te := ⟨fun pins s σ H Q I k => wpAt_of_wpAny (h.run pins s σ H Q I k)⟩
theorem PSt.of (h : PSs X sts t) : PSt X body sts t := ⟨fun pins s σ H D I k => wpAt_of_wpAny (h.run pins s σ H D I k)⟩
end
/-! ### a call whose first argument is read so -/
section
variable {M : Model} {A : Around} {c : Code} {E : Value → Shared → Prop} {s : Shared} {K : Frag} {h₀ : Heap} {env : Env} {f : Value} {pos : Pos}
end
section
variable {X : Cx} {CX : CXT} {k : Nat} {f : Addr} {fd : FuncData} {ps : List Str} {sp : Sp} {x : Str} {q pos : Pos} {e : Expr} {es : List Expr} {te : TE} {ta : TA} {E : XK} {body : List Stmt}
end
end SupM
namespace SupM
open PySem PySem.Spec PySem.W L2
open PyProof.Rows hiding wpAt wpAt_mono wpAt_bind
/-- a class's def that says super(): what the written part has of it -/
structure DefS (P : Program) (K : Frag) (D : Addr) (name qual : Str) (st : Stmt) (f cda cc : Addr) (fd : FuncData) : Prop where
  ex : ∃ (oc ccl cl : Value) (od cdd cld an : Option Addr) (osl ccs csl : Array (Option Value)) (kV doc pm ct : Value) (vs0 : Array Value) (file : Str) (tf : Tok), fd = ksFn name qual (defArgs st) (defBody st) (defScope st) .none kV doc pm an (.ref cda) ct cc ∧ K.lookup f = some ⟨oc, od, .func fd, osl⟩ ∧
    codeIn K (.ref cda) qual = true ∧ K.lookup cda = some ⟨ccl, cdd, .fields vs0, ccs⟩ ∧ vs0[2]? = some (.str file tf) ∧ ((P.main.file : Str) == file) = true ∧ K.lookup cc = some ⟨cl, cld, .cell (some (.ref D)), csl⟩
  cls : (clsIn K D).isSome = true
section
variable {X : Cx} {CX : CXT} {k : Nat} {body : List Stmt} {f cda cc D C f2 : Addr} {m name qual : Str} {fd : FuncData} {ar : Arg} {st : Stmt} {p0 p1 p2 pos : Pos} {e : Expr} {es : List Expr} {t : TA} {sp : Sp} {E : XK} {pl : Sem Bool}
end
section
variable {P : Program} {w : World} {K : Frag} {mg : Str → Option Value} {base : Heap} {CX : CXT} {k : Nat} {f cda cc D : Addr} {name qual : Str} {st : Stmt} {fd : FuncData} {ps N : List Str} {sp : Sp}
abbrev nfD (name qual : Str) (st : Stmt) (cc cda : Addr) : NdefX.NF := SupX.nfOf name qual (defArgs st) (defBody st) (defScope st) cc cda
/-- the rule of such a def -/
theorem fn_at (d : DefS P K D name qual st f cda cc fd) (S : NdefX.NScope N ps ["__class__"] (defScope st)) (len : ∀ vs H Q E, sp vs H Q E → vs.length = ps.length)
    (hbody : ∀ (A : Around) (outer : List Env) (s : Shared) (H : Hp) (vs : List V) (Q : VK) (E : XK), Room k (A.deeper (NdefX.envF (nfD name qual st cc cda) f s.heap.objs.size)) → sp vs H Q E →
      ∃ t, PSt (NdefX.ncx CX P w K mg base N (nfD name qual st cc cda) f A outer s H E) (defBody st) (defBody st) t ∧ t { nx := fun _ H' => Q .non H', rt := Q } (NdefX.startF N vs [none]) H) : FnOk P w K mg base CX (k + 1) f fd ps sp := by
  obtain ⟨oc, ccl, cl, od, cdd, cld, an, osl, ccs, csl, kV, doc, pm, ct, vs0, file, tf, rfl, lk, hcd, hcode, hvs, hfile, hcell⟩ := d.ex
  constructor
  · exact len
  intro A outer s H args us vs Q E hr e0 hb r hsp
  have hl := len _ _ _ _ hsp
  have up : ∀ b o, base.get? b = some o → s.heap.get? b = some o := fun b o e => (e0.bs b o e).1
  have KX := e0.mod.kin.keeps up
  obtain ⟨t, hPS, ht⟩ := hbody A outer s H vs Q E (hr.deeper _) hsp
  refine ks_codeAny_call_defAt (fd := ksFn name qual (defArgs st) (defBody st) (defScope st) .none kV doc pm an (.ref cda) ct cc) (binds := ps.zip us) hr.depth (KX _ _ lk) rfl (e0.mod.nolimit.keeps up) (codeRec_of KX hcd) rfl hb (fun y hy => S.nocell y hy) (fun y hy => S.par y.1 (List.of_mem_zip hy).1) (fun h₁ hns kp => ?_) S.co S.gen S.kind
  have hcl : ([("__class__", cc)] : List (Str × Addr)).lookup ("__class__" : Str) = some cc := by simp [List.lookup]
  have only : ∀ y c, ([("__class__", cc)] : List (Str × Addr)).lookup y = some c → y = "__class__" ∧ c = cc := fun y c e => by
    by_cases hy : y = "__class__"
    · subst hy
      rw [hcl] at e
      exact ⟨rfl, (Option.some.inj e).symm⟩
    · have q : (y == ("__class__" : Str)) = false := by simpa using hy
      simp [List.lookup, q] at e
  have CA : NdefX.CellsAt [("__class__", cc)] ["__class__"] [none] s.heap H := by
    refine ⟨rfl, fun y c e => ?_, fun x y c e1 e2 => by rw [(only x c e1).1, (only y c e2).1], fun i y e => ?_⟩
    · obtain ⟨_, rfl⟩ := only y c e
      exact ⟨(e0.bs _ _ (e0.mod.kin _ _ hcell)).2, _, _, KX _ _ hcell, rfl⟩
    · match i, e with
      | 0, e =>
        cases e
        exact ⟨cc, hcl, fun v z => by cases z⟩
      | _ + 1, e => cases e
  have I := NdefX.inv_startN (CX := CX) (F := nfD name qual st cc cda) (f := f) (E := E) (tk := s.toks + (ps.zip us).length) S hr.hd e0 hl r CA hns kp
  exact ks_wpAt_mono (hPS.run [] _ _ H _ I ht) (fun fl s' out => SupX.ce_of (X := NdefX.ncx CX P w K mg base N (nfD name qual st cc cda) f A outer s H E) rfl out) fun _ _ z => z
end
end SupM
namespace StX
open PySem PySem.Spec PyProof.Rows L2 ClX
end StX
namespace L2
open PySem PySem.Spec PyProof.Rows
/-! ## C(..) by a local name; a def with a star and a keyword -/
section
variable {X : Cx} {CX : CXT} {k i : Nat} {f C : Addr} {fd : FuncData} {ps : List Str} {sp : Sp} {E : XK} {x : Str} {p pos : Pos} {e : Expr} {es : List Expr} {t : TA}
end
/-- what a def promises that is called with values vs and keywords zs -/
abbrev SpK := List V → List V → Hp → VK → XK → Prop
section
variable {CX : CXT} {P : Program} {w : World} {K : PySem.W.Frag} {mg : Str → Option Value} {base : Heap} {k : Nat} {f : Addr} {nm qual : Str} {pars : Arguments} {body : List Stmt} {sc : Scope} {dV kV doc pm cdv ct oc : Value} {an od : Option Addr}
  {osl : Array (Option Value)} {N : List Str} {sp : Sp} {key star : Str}
end
section
variable {X : Cx} {CX : CXT} {k : Nat} {f : Addr} {ks : List Str} {sp : SpK} {E : XK} {x : Str} {p pos : Pos} {e : Expr} {es : List Expr} {kws : List Keyword} {t tk : TA}
end
/-! ## f(*e, key=v) -/
section
variable {M : Model} {A : Around} {E : Value → Shared → Prop} {s : Shared}
end
section
variable {X : Cx} {CX : CXT} {k : Nat} {f : Addr} {ks : List Str} {sp : SpK} {E : XK} {x : Str} {p pos sp_ : Pos} {e : Expr} {kws : List Keyword} {te : TE} {tk : TA}
end
end L2
namespace L2
open PySem PySem.Spec PyProof.Rows
end L2
namespace Dl
open PySem PySem.Spec L2
section
variable {cl : Nat → Addr} {kp : List Nat} {τ σ : L2.St} {F F' H H' : Hp} {fp : Nat → Addr → Prop} {env : Env} {S : Addr → Prop} {K : PySem.W.Frag} {Eh : XK}
/-! ### enumerate -/
def gItES (g : G) : Env → Option (List A × Env) := fun env => (gOne g env).bind fun p => p.1.str?.map fun z => (enumA (strA z), p.2)
/-! ### calls on a class -/
def gCls (c : Nat) (f : GF) (g : Env → Option (List R × Env)) : G := fun env => (g env).bind fun p => callG f (.fz (.kls c) :: p.1) p.2
def gSta (f : GF) (g : Env → Option (List R × Env)) : G := fun env => (g env).bind fun p => callG f p.1 p.2
def gMakeN (i c : Nat) (f : GF) (g : Env → Option (List R × Env)) : G := fun env => match env[i]? with
  | some (.fl (.fz (.kls c'))) => if c' = c then (g env).bind fun p => makeG c f p.1 p.2 else none
  | _ => none
/-! ### super().m(..) -/
def gSup (c : Nat) (f : GF) (g : Env → Option (List R × Env)) : G := fun env => (gT (gV 0) env).bind fun o => (o.1.vw o.2).bind fun a => if a.isIns c then (g env).bind fun p => callG f (o.1 :: p.1) p.2 else none
/-! ### f(*e, key=v) -/
def gStK (f : GF) (g : Env → Option (A × Env)) (ga : Env → Option (List R × Env)) : G := fun env => (g env).bind fun p => p.1.lsts.bind fun xs => if xs.length ≤ sizeLine then (ga p.2).bind fun q => match q.1 with
  | [r] => callG f [r, .fz (.tup xs)] q.2
  | _ => none
  else none
/-! ### isinstance with an own class -/
/-! ### list(a dict) -/
/-! ### a, b = e, f -/
end
/-! ### a def that says super() -/
section
variable {P : Program} {w : World} {K : PySem.W.Frag} {mg : Str → Option Value} {base : Heap} {cl : Nat → Addr} {Eh : XK}
theorem _root_.SupM.DefS.okD {f cda cc D : Addr} {name qual : Str} {st : Stmt} {fd : FuncData} {N ps : List Str} {k : Nat} (d : SupM.DefS P K D name qual st f cda cc fd) (S : NdefX.NScope N ps ["__class__"] (defScope st)) (ra kp : List Nat) (m : Nat) (g : GS)
    (hN : N.length = ps.length + m) (h1 : 1 ≤ m) (hk : ((List.range ps.length).all fun i => ra.contains i || kp.contains i) = true)
    (body : ∀ (A : Around) (outer : List PySem.Env) (s : Shared) (H : Hp) (E : XK), Room k (A.deeper (NdefX.envF (SupM.nfD name qual st cc cda) f s.heap.objs.size)) →
      ∃ t, SupM.PSt (NdefX.ncx CX0 P w K mg base N (SupM.nfD name qual st cc cda) f A outer s H E) (defBody st) (defBody st) t ∧ SS cl kp E t g) : FnOk P w K mg base CX0 (k + 1) f fd ps (spD cl (fnD ra ps.length m g)) := by
  refine SupM.fn_at d S (fun vs H Q E h => ?_) (fun A outer s H vs Q E hr h => ?_)
  · obtain ⟨F, fp, os, res, os', I, e, _⟩ := h
    obtain ⟨l, _⟩ := fnD_inv e
    have := I.len
    rw [List.length_map] at this
    omega
  · obtain ⟨t, ht, hs⟩ := body A outer s H E hr
    refine ⟨t, ht, ?_⟩
    have q := body_ok (E := E) hN (fun i hi hr => by
      have := List.all_eq_true.mp hk i (List.mem_range.mpr hi)
      rcases Bool.or_eq_true_iff.mp this with z | z
      · exact (hr (by simpa using z)).elim
      · simpa using z) hs h
    have hl : vs.length = ps.length := by
      obtain ⟨F, fp, os, res, os', I, e, _⟩ := h
      obtain ⟨l, _⟩ := fnD_inv e
      have := I.len
      rw [List.length_map] at this
      omega
    have eq : NdefX.startF N vs [none] = L2.start N vs := by
      unfold NdefX.startF L2.start
      have : N.length - vs.length = (N.length - vs.length - 1) + 1 := by omega
      rw [this, List.replicate_succ]
      rfl
    rw [eq]
    exact q
end
end Dl
namespace L2
open PySem PySem.Spec PyProof.Rows
end L2
namespace Dl
open PySem PySem.Spec L2
section
variable {cl : Nat → Addr} {kp : List Nat} {τ σ : L2.St} {F F' H H' : Hp} {fp : Nat → Addr → Prop} {env : Env} {S : Addr → Prop} {K : PySem.W.Frag}
end
end Dl
namespace ItY
open PySem PySem.Spec PyProof.Rows L2 ItX
section
variable {prog : Program} {w : World} {A : Around} {E : Value → Shared → Prop} {s : Shared} {t : Addr} {its : Array Value}
end
end ItY
namespace L2
open PySem PySem.Spec PyProof.Rows ItX ItY
section
variable {P : Program} {w : World} {K : PySem.W.Frag} {mg : Str → Option Value} {base : Heap}
end
end L2
namespace Dl
open PySem PySem.Spec L2
end Dl
namespace Dl
open PySem PySem.Spec L2
/-! ## keywords and defaults -/
section
variable {cl : Nat → Addr} {kp : List Nat} {τ σ : L2.St} {F F' H H' : Hp} {fp : Nat → Addr → Prop} {env : Env} {S : Addr → Prop} {K : PySem.W.Frag} {Eh : XK}
/-! ### o.f += k -/
/-! ### sorted(texts) -/
end
end Dl
namespace Dl
open PySem PySem.Spec L2
section
variable {cl : Nat → Addr} {kp : List Nat} {τ σ : L2.St} {F F' H H' : Hp} {fp : Nat → Addr → Prop} {env : Env} {S : Addr → Prop} {K : PySem.W.Frag}
/-! ### range(a, -1, -1), range(a, b, -1) -/
/-! ### zip of two tuples -/
def gItZT (g h : Env → Option (A × Env)) : Env → Option (List A × Env) := fun env => (g env).bind fun p => (h p.2).bind fun q => p.1.tups.bind fun xs => q.1.tups.map fun ys => (zipA xs ys, q.2)
end
end Dl
namespace L2
open PySem PySem.Spec PyProof.Rows
end L2
namespace Dl
open PySem PySem.Spec L2
section
variable {cl : Nat → Addr} {kp : List Nat} {τ σ : L2.St} {F F' H H' : Hp} {fp : Nat → Addr → Prop} {env : Env} {S : Addr → Prop} {K : PySem.W.Frag} {Eh : XK}
theorem SS.lk {i : Nat} {a : TE} {g : GS} (h : SS cl kp Eh (tAsg (tAlt a (tLockE a)) (gName i)) g) : SS cl kp Eh (tAltS (tAsg a (gName i)) (tLock (tAsg a (gName i)))) g := fun τ F H fp env σ D f env' I e k => h I e k
/-! ### two clauses, the first over a dict -/
end
section
variable {P : Program} {w : World} {K : PySem.W.Frag} {mg : Str → Option Value} {base : Heap} {cl : Nat → Addr} {Eh : XK}
end
end Dl
namespace Dl
open PySem PySem.Spec L2
section
variable {cl : Nat → Addr} {kp : List Nat} {τ σ : L2.St} {F F' H H' : Hp} {fp : Nat → Addr → Prop} {env : Env} {S : Addr → Prop} {K : PySem.W.Frag} {Eh : XK}
def gMakeR0' (c n : Nat) (f : GF) (g : Env → Option (List R × Env)) : G := fun env => (g env).bind fun p => if p.1.length = n then makeG c f (p.1 ++ [.fz (.dK [] [])]) p.2 else none
abbrev gMakeR0 := gMakeR0'
end
end Dl
/-! ## a != b, own instances of a class with __eq__ and no __ne__ -/
namespace NeX
open PySem PySem.W PySem.Calls PyProof.Rows
section
variable {prog : Program} {w : World} {A : Around} {E : Value → Shared → Prop} {s : Shared} {K : Frag} {x C f : Addr} {ox : Obj} {od : Option Obj} {y : Value}
end
end NeX
namespace L2
open PySem PySem.Spec PyProof.Rows
section
variable {X : Cx} {CX : CXT} {k : Nat} {C f : Addr} {fd : FuncData} {ps : List Str} {sp : Sp} {E : XK}
end
end L2
namespace Dl
open PySem PySem.Spec L2
section
variable {cl : Nat → Addr} {kp : List Nat} {τ σ : L2.St} {F F' H H' : Hp} {fp : Nat → Addr → Prop} {env : Env} {S : Addr → Prop} {K : PySem.W.Frag}
def gNeO (c : Nat) (f : GF) (ga gb : G) : G := fun env => (gOp2 (bothIns c) false f ga gb env).bind fun p => (negR true p.1).map fun r => (r, p.2)
end
end Dl
namespace Dl
open PySem PySem.Spec L2
/-! ## the law's def: its script is not tracked but in the box -/
theorem updN {H H' : Hp} {D : Addr} {o : HO} (s : Same H H') (hD : H D = none) : Same H (L2.upd H' D o) := fun b u e => by
  rw [L2.upd_ne (L2.ne_of_none e hD)]
  exact s b u e
theorem updM {H H' : Hp} {p : Addr} {o : HO} (s : Same H H') (n : H' p = none) : Same H (L2.upd H' p o) := fun b u e => by
  rw [L2.upd_ne (L2.ne_of_none (s b u e) n)]
  exact s b u e
theorem newH {H : Hp} {D : Addr} {o : HO} (hD : H D = none) : Same H (L2.upd H D o) := updN (Same.refl H) hD
theorem yesT {σ : L2.St} {H : Hp} {R : Bool → Hp → Prop} (h : R true H) : tYes σ H R := h
def spLaw (K : PySem.W.Frag) : Sp := fun vs H Q _ => ∃ (a : Addr) (ns : List Int), vs = [.ref a] ∧ SqL K H a (ns.map V.int) ∧ ns.length ≤ 63 ∧ ∀ H', Q (.bl true) H'
def vI (l : List Int) : List V := l.map V.int
def spBox (K : PySem.W.Frag) : Sp := fun vs H Q _ => ∃ (a : Addr) (ns : List Int), vs = [.ref a] ∧ SqL K H a (ns.map V.int) ∧ ns.length ≤ 63 ∧
  ∀ H' b c cs, Same H H' → c ≠ b → H' b = some (.lst [.ref c, .int 0, .int 0, .int 0]) → H' c = some (.lst (vI cs)) → (∀ x ∈ cs, 0 ≤ x) → Q (.ref b) H'
theorem vI_len (l : List Int) : (vI l).length = l.length := List.length_map _
theorem vI_at {l : List Int} {i : Nat} {v : V} (h : (vI l)[i]? = some v) : ∃ x, l[i]? = some x ∧ v = .int x := by
  unfold vI at h
  rw [List.getElem?_map] at h
  obtain ⟨x, hx, e⟩ := Option.map_eq_some_iff.mp h
  exact ⟨x, hx, e.symm⟩
theorem cut_vI (ns : List Int) (lo hi : Option Int) : ∃ ms, cutV (vI ns) lo hi = vI ms ∧ ms.length ≤ ns.length := by
  refine ⟨(ns.drop (HT.sIx (vI ns).length 0 lo)).take (HT.sIx (vI ns).length (vI ns).length hi - HT.sIx (vI ns).length 0 lo), ?_, ?_⟩
  · unfold cutV vI
    rw [List.map_take, List.map_drop]
  · rw [List.length_take, List.length_drop]
    omega
theorem RpL.ints {cl : Nat → Addr} {F : Hp} : ∀ {cs : List Int}, RpL cl F (cs.map A.int) (vI cs)
  | [] => rfl
  | c :: cs => ⟨_, _, rfl, rfl, RpL.ints (cs := cs)⟩
section
variable {P : Program} {w : World} {K : PySem.W.Frag} {mg : Str → Option Value} {base : Heap} {cl : Nat → Addr} {Eh : XK}
/-- a def that has defaults: as Fun -/
structure FunV (K : PySem.W.Frag) (x qual : Str) (st : Stmt) (f : Addr) (fd : FuncData) : Prop where
  ex : ∃ (oc : Value) (od : Option Addr) (dV kV doc pm : Value) (an : Option Addr) (cdv ct : Value) (osl : Array (Option Value)),
    fd = PySem.W.fnOf x qual (defArgs st) (defBody st) (defScope st) dV kV doc pm an cdv ct ∧ K.lookup f = some ⟨oc, od, .func fd, osl⟩ ∧ PySem.W.codeIn K cdv qual = true
  kp : PySem.W.keepIn K (.ref f) = true
theorem FunV.ok {x qual : Str} {st : Stmt} {f : Addr} {fd : FuncData} {N ps : List Str} {k : Nat} {sp : Sp} (F : FunV K x qual st f fd) (S : FnScope N ps (defScope st)) (len : ∀ vs H Q E, sp vs H Q E → vs.length = ps.length)
    (hbody : ∀ (cdv : Value) (A : Around) (outer : List PySem.Env) (s : Shared) (H : Hp) (vs : List V) (Q : VK) (E : XK), Room k (A.deeper (PyProof.Rows.envOfC qual (defScope st) s.heap.objs.size f cdv)) → sp vs H Q E →
      ∃ t, PSs (cxOf CX0 P w K mg base N qual (defScope st) f cdv A outer s H E).nox (defBody st) t ∧ t { nx := fun _ H' => Q .non H', rt := Q } (L2.start N vs) H) : FnOk P w K mg base CX0 (k + 1) f fd ps sp := by
  obtain ⟨oc, od, dV, kV, doc, pm, an, cdv, ct, osl, rfl, lk, hcd⟩ := F.ex
  refine fn_of lk hcd S len fun A outer s H vs Q E hr hsp => ?_
  obtain ⟨t, h, q⟩ := hbody cdv A outer s H vs Q E hr hsp
  exact ⟨t, h.nox, q⟩
theorem FunV.okD {x qual : Str} {st : Stmt} {f : Addr} {fd : FuncData} {N ps : List Str} {k : Nat} (F : FunV K x qual st f fd) (S : FnScope N ps (defScope st)) (ra kp : List Nat) (m : Nat) (g : GS)
    (hN : N.length = ps.length + m) (hk : ((List.range ps.length).all fun i => ra.contains i || kp.contains i) = true)
    (body : ∀ (cdv : Value) (A : Around) (outer : List PySem.Env) (s : Shared) (H : Hp) (E : XK), Room k (A.deeper (PyProof.Rows.envOfC qual (defScope st) s.heap.objs.size f cdv)) →
      ∃ t, PSs (cxOf CX0 P w K mg base N qual (defScope st) f cdv A outer s H E).nox (defBody st) t ∧ SS cl kp E t g) : FnOk P w K mg base CX0 (k + 1) f fd ps (spD cl (fnD ra ps.length m g)) := by
  refine F.ok S (fun vs H Q E h => ?_) (fun cdv A outer s H vs Q E hr h => ?_)
  · obtain ⟨F, fp, os, res, os', I, e, _⟩ := h
    obtain ⟨l, _⟩ := fnD_inv e
    have := I.len
    rw [List.length_map] at this
    omega
  · obtain ⟨t, ht, hs⟩ := body cdv A outer s H E hr
    refine ⟨t, ht, body_ok hN (fun i hi hr => ?_) hs h⟩
    have := List.all_eq_true.mp hk i (List.mem_range.mpr hi)
    rcases Bool.or_eq_true_iff.mp this with z | z
    · exact (hr (by simpa using z)).elim
    · simpa using z
theorem law_core {N : List Str} (m : Nat) (g : GS)
    (hN : N.length = m + 2) (hg : ∀ cs : List Int, (∀ c ∈ cs, 0 ≤ c) → ∃ env', g (.un :: .fl (.lst [.lst (cs.map A.int), .int 0, .int 0, .int 0]) :: List.replicate m .un) = some (.rt (.fl (.fz (.bl true))), env'))
    {t : TS} {E : XK} (hs : SS cl [0] E t g) {vs : List V} {H : Hp} {Q : VK} {E0 E1 : XK} (h : spLaw K vs H Q E1) : (tSeq (tAsg (tCall (spBox K) [] E0 (tCons (tVar 0) tNil)) (gName 1)) t) { nx := fun _ H' => Q .non H', rt := Q } (L2.start N vs) H := by
  obtain ⟨a, ns, rfl, hS, hl, q⟩ := h
  have e0 : L2.start N [V.ref a] = some (.ref a) :: none :: List.replicate m none := by
    unfold L2.start
    rw [show N.length - [V.ref a].length = m + 1 by rw [hN]; rfl]
    rfl
  rw [e0]
  refine ⟨_, rfl, a, ns, rfl, hS, hl, fun H1 b c cs sm ncb hb hc pos => ?_⟩
  obtain ⟨env', e⟩ := hg cs pos
  have hF : ∀ p o, (fun p => if p = c then H1 c else none) p = some o → p = c ∧ H1 c = some o := fun p o z => by
    by_cases hpc : p = c
    · simp only [hpc, if_true] at z; exact ⟨hpc, z⟩
    · simp only [hpc, if_false] at z; cases z
  refine hs (τ := some (.ref a) :: some (.ref b) :: List.replicate m none) (F := fun p => if p = c then H1 c else none) (H := H1) (fp := fun i p => i = 1 ∧ p = b) (env' := env') ?_ e ?_
  · refine ⟨by simp, fun i o hi => ?_, fun i j p h1 h2 => h1.1.trans h2.1.symm, fun i p h => ?_, fun i p h => ?_, fun p o z => ?_, fun _ _ => rfl, rfl⟩
    · match i with
      | 0 => simp at hi; exact .inl hi.symm
      | 1 =>
        simp at hi
        subst hi
        refine .inr ⟨.ref b, rfl, b, _, rfl, ⟨rfl, rfl⟩, hb, _, _, rfl, ⟨c, vI cs, rfl, ?_, RpL.ints⟩, _, _, rfl, rfl, _, _, rfl, rfl, _, _, rfl, rfl, rfl⟩
        show (if c = c then H1 c else none) = _
        rw [if_pos rfl]; exact hc
      | i + 2 =>
        simp [List.getElem?_replicate] at hi
        exact .inl hi.2.symm
    · obtain ⟨_, rfl⟩ := h
      show (if p = c then H1 c else none) = none
      rw [if_neg (Ne.symm ncb)]
    · obtain ⟨_, rfl⟩ := h
      exact ⟨_, hb, rfl⟩
    · obtain ⟨rfl, z⟩ := hF p o z
      exact z
  · intro F' H' fp' σ' T v I' go rr nS
    cases (show v = V.bl true from rr)
    exact q H'
/-- the law: its first step is the box -/
theorem _root_.L2.Fun.okLaw {x qual : Str} {st : Stmt} {f : Addr} {fd : FuncData} {N : List Str} {k : Nat} {ps : List Str} (F : Fun K x qual st f fd) (S : FnScope N ps (defScope st)) (hp : ps.length = 1) (m : Nat) (g : GS)
    (hN : N.length = m + 2) (hg : ∀ cs : List Int, (∀ c ∈ cs, 0 ≤ c) → ∃ env', g (.un :: .fl (.lst [.lst (cs.map A.int), .int 0, .int 0, .int 0]) :: List.replicate m .un) = some (.rt (.fl (.fz (.bl true))), env'))
    (body : ∀ (cdv : Value) (A : Around) (outer : List PySem.Env) (s : Shared) (H : Hp) (E : XK), Room k (A.deeper (PyProof.Rows.envOfC qual (defScope st) s.heap.objs.size f cdv)) →
      ∃ t, PSs (cxOf CX0 P w K mg base N qual (defScope st) f cdv A outer s H E).nox (defBody st) (tSeq (tAsg (tCall (spBox K) [] E0 (tCons (tVar 0) tNil)) (gName 1)) t) ∧ SS cl [0] E t g) : FnOk P w K mg base CX0 (k + 1) f fd ps (spLaw K) := by
  refine F.ok S (fun vs H Q E h => ?_) (fun cdv A outer s H vs Q E hr h => ?_)
  · obtain ⟨a, ns, rfl, _⟩ := h
    exact hp.symm
  · obtain ⟨t, ht, hs⟩ := body cdv A outer s H E hr
    exact ⟨_, ht, law_core m g hN hg hs h⟩
theorem binds_raw {n q : Str} {st : Stmt} {f : Addr} {fd : FuncData} {R : FuncData → Prop} (F : Fun K n q st f fd) (h : ∀ (kV doc pm : Value) (an : Option Addr) (cdv ct : Value), R (PySem.W.fnOf n q (defArgs st) (defBody st) (defScope st) .none kV doc pm an cdv ct)) : R fd := by
  obtain ⟨oc, od, kV, doc, pm, an, cdv, ct, osl, rfl, lk, hcd⟩ := F.ex
  exact h kV doc pm an cdv ct
end
end Dl
namespace Hd
open PySem PySem.Spec PyProof.Rows L2
/-! ### the defs -/
section
variable {K : PySem.W.Frag} {a : Addr} {n q : Str} {st : Stmt} {dvs : List V}
theorem fun_of (e : obsAt K a = some (n, q, defArgs st, .stmts (defBody st), defScope st, mainGlobals, builtinsNs)) (c : okAt K a q false [] = true) (k : PySem.W.keepIn K (.ref a) = true) : ∃ fd, Fun K n q st a fd := by
  obtain ⟨oc, od, osl, dV, kV, doc, pm, an, cdv, ct, lk, cd, d⟩ := fnx_dflt e c
  have k0 : dV = .none := by
    rcases d with ⟨_, z⟩ | ⟨z, _⟩
    · exact z
    · exact absurd rfl z
  subst k0
  exact ⟨_, fun_mk lk cd k⟩
end
/-! ### isinstance -/
section
variable {K : PySem.W.Frag} {C D : Addr} {b : Bool}
theorem kit_own (self : PySem.W.subIn K (.ref D) (.ref D) = some true) (h1 : (PySem.W.clsIn K C).isSome = true) (h2 : PySem.W.typeIn K (.ref C) = some (.type "type")) (h3 : PySem.W.subIn K (.ref D) (.ref C) = some b) : PySem.W.kitOne K (.ref D) (.ref C) = some b := by
  unfold PySem.W.kitOne
  by_cases e : D = C
  · subst e
    rw [self] at h3
    rw [if_pos (by simp), h3]
  · rw [if_neg (by simpa using e)]
    unfold PySem.W.kitCls
    simp [h1, h2, h3]
end
end Hd
namespace Hd
open PySem PySem.Spec PyProof.Rows L2
/-! ### keyword-only defaults -/
section
variable {K : PySem.W.Frag} {a : Addr} {n q : Str} {st : Stmt} {kws : List (Str × V)}
end
end Hd
namespace Dg
open PySem PySem.Spec L2
def top (i : Nat) : Stmt := PySem.Challenge.pw_murmurline_k77_whole_family_of_errors.main.body.getD i (.Pass ⟨0, 0, 0, 0⟩)
abbrev s__law_box : Stmt := top 23
abbrev N__law_box : List Str := ["_law_script", "_law_cell"]
theorem sc__law_box : FnScope N__law_box ["_law_script"] (defScope s__law_box) := ⟨rfl, rfl, rfl, by decide +kernel, rfl, by decide +kernel, by decide +kernel⟩
abbrev s__law_take : Stmt := top 24
abbrev N__law_take : List Str := ["_law_box_here", "_law_many", "_law_digit", "_law_cell"]
theorem sc__law_take : FnScope N__law_take ["_law_box_here", "_law_many"] (defScope s__law_take) := ⟨rfl, rfl, rfl, by decide +kernel, rfl, by decide +kernel, by decide +kernel⟩
abbrev s__law_letters : Stmt := top 25
abbrev N__law_letters : List Str := ["_law_box_here", "_law_many", "_law_pool", "_law_found", "_law_k", "_law_at"]
theorem sc__law_letters : FnScope N__law_letters ["_law_box_here", "_law_many"] (defScope s__law_letters) := ⟨rfl, rfl, rfl, by decide +kernel, rfl, by decide +kernel, by decide +kernel⟩
abbrev s__law_second : Stmt := top 27
abbrev N__law_second : List Str := ["_law_which", "_law_one", "_law_two"]
theorem sc__law_second : FnScope N__law_second ["_law_which", "_law_one", "_law_two"] (defScope s__law_second) := ⟨rfl, rfl, rfl, by decide +kernel, rfl, by decide +kernel, by decide +kernel⟩
abbrev s__law_late : Stmt := top 29
abbrev N__law_late : List Str := ["_law_which", "_law_one", "_law_two", "_law_e"]
theorem sc__law_late : FnScope N__law_late ["_law_which", "_law_one", "_law_two"] (defScope s__law_late) := ⟨rfl, rfl, rfl, by decide +kernel, rfl, by decide +kernel, by decide +kernel⟩
abbrev s__law_first : Stmt := top 26
abbrev N__law_first : List Str := ["_law_which", "_law_one", "_law_two", "_law_text"]
theorem sc__law_first : FnScope N__law_first ["_law_which", "_law_one", "_law_two", "_law_text"] (defScope s__law_first) := ⟨rfl, rfl, rfl, by decide +kernel, rfl, by decide +kernel, by decide +kernel⟩
abbrev s__law_early : Stmt := top 28
abbrev N__law_early : List Str := ["_law_which", "_law_one", "_law_two", "_law_text", "_law_e"]
theorem sc__law_early : FnScope N__law_early ["_law_which", "_law_one", "_law_two", "_law_text"] (defScope s__law_early) := ⟨rfl, rfl, rfl, by decide +kernel, rfl, by decide +kernel, by decide +kernel⟩
abbrev s__law_as_base : Stmt := top 30
abbrev N__law_as_base : List Str := ["_law_which", "_law_one", "_law_two", "_law_text", "_law_e"]
theorem sc__law_as_base : FnScope N__law_as_base ["_law_which", "_law_one", "_law_two", "_law_text"] (defScope s__law_as_base) := ⟨rfl, rfl, rfl, by decide +kernel, rfl, by decide +kernel, by decide +kernel⟩
abbrev s_law_k77 : Stmt := top 31
abbrev N_law_k77 : List Str := ["_law_script", "_law_box_here", "_law_text", "_law_which", "_law_one", "_law_two", "_law_due", "_law_told"]
theorem sc_law_k77 : FnScope N_law_k77 ["_law_script"] (defScope s_law_k77) := ⟨rfl, rfl, rfl, by decide +kernel, rfl, by decide +kernel, by decide +kernel⟩
abbrev s__law_single : Stmt := top 22
abbrev N__law_single : List Str := ["_law_e", "_law_kinds", "_law_kind"]
theorem sc__law_single : FnScope N__law_single ["_law_e"] (defScope s__law_single) := ⟨rfl, rfl, rfl, by decide +kernel, rfl, by decide +kernel, by decide +kernel⟩
end Dg
namespace Dg
open PySem PySem.Spec L2
abbrev sBadSize : Stmt := top 2
abbrev sBadSizeI : Stmt := inClass sBadSize 0
abbrev sBadTable : Stmt := top 3
abbrev sBadTableI : Stmt := inClass sBadTable 0
abbrev sUnknownWord : Stmt := top 4
abbrev sUnknownWordI : Stmt := inClass sUnknownWord 0
abbrev sSizeMismatch : Stmt := top 5
abbrev sSizeMismatchI : Stmt := inClass sSizeMismatch 0
abbrev sBadCount : Stmt := top 6
abbrev sBadCountI : Stmt := inClass sBadCount 0
abbrev sBadPerson : Stmt := top 7
abbrev sBadPersonI : Stmt := inClass sBadPerson 0
abbrev sBadLetter : Stmt := top 8
abbrev sBadLetterI : Stmt := inClass sBadLetter 0
abbrev sUnknownPerson : Stmt := top 9
abbrev sUnknownPersonI : Stmt := inClass sUnknownPerson 0
abbrev sTooMany : Stmt := top 10
abbrev sTooManyI : Stmt := inClass sTooMany 0
abbrev sBadPattern : Stmt := top 11
abbrev sBadPatternI : Stmt := inClass sBadPattern 0
abbrev sSameWord : Stmt := top 12
abbrev sSameWordI : Stmt := inClass sSameWord 0
abbrev sUnknownClue : Stmt := top 13
abbrev sUnknownClueI : Stmt := inClass sUnknownClue 0
abbrev sBadPlace : Stmt := top 14
abbrev sBadPlaceI : Stmt := inClass sBadPlace 0
abbrev sTooLong : Stmt := top 15
abbrev sTooLongI : Stmt := inClass sTooLong 0
abbrev sMelted : Stmt := top 16
abbrev sMeltedI : Stmt := inClass sMelted 0
abbrev sNothingToUndo : Stmt := top 17
abbrev sNothingToUndoI : Stmt := inClass sNothingToUndo 0
abbrev sNothingToRedo : Stmt := top 18
abbrev sNothingToRedoI : Stmt := inClass sNothingToRedo 0
abbrev sRefused : Stmt := top 19
abbrev sRefusedI : Stmt := inClass sRefused 0
abbrev sBadLine : Stmt := top 20
abbrev sBadLineI : Stmt := inClass sBadLine 0
def hdB0 (K : PySem.W.Frag) : Bool := He.eqO (PySem.W.nsIn K mainGlobals "abs") (some none) && (He.eqO (PySem.W.nsIn K mainGlobals "int") (some none) && (He.eqO (PySem.W.nsIn K mainGlobals "len") (some none) && (He.eqO (PySem.W.nsIn K mainGlobals "range") (some none) && (PySem.W.keepIn K (.ref (He.ga K "_law_box")) && (He.eqO (PySem.W.nsIn K mainGlobals "_law_box") (some (some (.ref (He.ga K "_law_box")))) && (PySem.W.keepIn K (.ref (He.ga K "_law_take")) && (He.eqO (PySem.W.nsIn K mainGlobals "_law_take") (some (some (.ref (He.ga K "_law_take")))) && (PySem.W.keepIn K (.ref (He.ga K "_law_letters")) && (He.eqO (PySem.W.nsIn K mainGlobals "_law_letters") (some (some (.ref (He.ga K "_law_letters")))) && (PySem.W.keepIn K (.ref (He.ga K "_law_second")) && (He.eqO (PySem.W.nsIn K mainGlobals "_law_second") (some (some (.ref (He.ga K "_law_second")))) && (PySem.W.keepIn K (.ref (He.ga K "_law_late")) && (He.eqO (PySem.W.nsIn K mainGlobals "_law_late") (some (some (.ref (He.ga K "_law_late")))) && (PySem.W.keepIn K (.ref (He.ga K "_law_first")) && (He.eqO (PySem.W.nsIn K mainGlobals "_law_first") (some (some (.ref (He.ga K "_law_first")))) && (PySem.W.keepIn K (.ref (He.ga K "_law_early")) && (He.eqO (PySem.W.nsIn K mainGlobals "_law_early") (some (some (.ref (He.ga K "_law_early")))) && (PySem.W.keepIn K (.ref (He.ga K "_law_as_base")) && (He.eqO (PySem.W.nsIn K mainGlobals "_law_as_base") (some (some (.ref (He.ga K "_law_as_base")))))))))))))))))))))))
def hdB1 (K : PySem.W.Frag) : Bool := PySem.W.keepIn K (.ref (He.ga K "law")) && (He.eqO (PySem.W.nsIn K mainGlobals "law") (some (some (.ref (He.ga K "law")))) && (He.eqO (PySem.W.nsIn K mainGlobals "MurmurError") (some (some (.ref (He.ga K "MurmurError")))) && (He.eqO (PySem.W.nsIn K mainGlobals "BadSize") (some (some (.ref (He.ga K "BadSize")))) && (He.eqO (PySem.W.nsIn K mainGlobals "BadTable") (some (some (.ref (He.ga K "BadTable")))) && (He.eqO (PySem.W.nsIn K mainGlobals "UnknownWord") (some (some (.ref (He.ga K "UnknownWord")))) && (He.eqO (PySem.W.nsIn K mainGlobals "SizeMismatch") (some (some (.ref (He.ga K "SizeMismatch")))) && (He.eqO (PySem.W.nsIn K mainGlobals "BadCount") (some (some (.ref (He.ga K "BadCount")))) && (He.eqO (PySem.W.nsIn K mainGlobals "BadPerson") (some (some (.ref (He.ga K "BadPerson")))) && (He.eqO (PySem.W.nsIn K mainGlobals "BadLetter") (some (some (.ref (He.ga K "BadLetter")))) && (He.eqO (PySem.W.nsIn K mainGlobals "UnknownPerson") (some (some (.ref (He.ga K "UnknownPerson")))) && (He.eqO (PySem.W.nsIn K mainGlobals "TooMany") (some (some (.ref (He.ga K "TooMany")))) && (He.eqO (PySem.W.nsIn K mainGlobals "BadPattern") (some (some (.ref (He.ga K "BadPattern")))) && (He.eqO (PySem.W.nsIn K mainGlobals "SameWord") (some (some (.ref (He.ga K "SameWord")))) && (He.eqO (PySem.W.nsIn K mainGlobals "UnknownClue") (some (some (.ref (He.ga K "UnknownClue")))) && (He.eqO (PySem.W.nsIn K mainGlobals "BadPlace") (some (some (.ref (He.ga K "BadPlace")))) && (He.eqO (PySem.W.nsIn K mainGlobals "TooLong") (some (some (.ref (He.ga K "TooLong")))) && (He.eqO (PySem.W.nsIn K mainGlobals "Melted") (some (some (.ref (He.ga K "Melted")))) && (He.eqO (PySem.W.nsIn K mainGlobals "NothingToUndo") (some (some (.ref (He.ga K "NothingToUndo")))) && (He.eqO (PySem.W.nsIn K mainGlobals "NothingToRedo") (some (some (.ref (He.ga K "NothingToRedo")))))))))))))))))))))))
def hdB2 (K : PySem.W.Frag) : Bool := He.eqO (PySem.W.nsIn K mainGlobals "Refused") (some (some (.ref (He.ga K "Refused")))) && (He.eqO (PySem.W.nsIn K mainGlobals "BadLine") (some (some (.ref (He.ga K "BadLine")))) && (He.eqO (PySem.W.nsIn K mainGlobals "ValueError") (some none) && (He.eqO (PySem.W.nsIn K mainGlobals "isinstance") (some none) && (He.eqO (PySem.W.specialIn K (.builtin "object.__class__") "__get__") (some (some (.builtin "getset_descriptor.__get__"))) && (decide (PySem.W.takesIn K (.builtin "object.__class__") = some true) && (Hd.ecB K (He.ga K "BadSize") && (He.eqO (PySem.W.findIn K (.ref (He.ga K "BadSize")) "__setattr__") (some (some (.builtin "object.__setattr__"))) && (decide (PySem.W.subIn K (.ref (He.ga K "BadSize")) (.type "BaseException") = some true) && (decide (PySem.W.typeIn K (.ref (He.ga K "BadSize")) = some (.type "type")) && (PySem.W.keepIn K (.ref (He.ga K "BadSize")) && (decide (PySem.W.mroIn K (He.ga K "BadSize") (.ref (He.ga K "BadSize")) = some true) && (decide (PySem.W.subIn K (.ref (He.ga K "BadSize")) (.type "ValueError") = some true) && (He.eqO (PySem.W.ks_superIn K (He.ga K "BadSize") (He.ga K "BadSize") "__init__") (some (some (.builtin "ValueError.__init__"))) && (He.eqO (PySem.W.nsIn K mainGlobals "super") (some none) && (He.eqO (PySem.W.nsIn K cStatics "thirdparty.any") (some none) && (Hd.fileB K (Hd.codeOf K (He.ma K (He.ga K "BadSize") "__init__")) (PySem.Challenge.rw_murmurline_k77_whole_family_of_errors).prog.main.file && (Hd.cellB K (Hd.cellOf K (He.ma K (He.ga K "BadSize") "__init__")) (He.ga K "BadSize") && (He.eqO (PySem.W.findIn K (.ref (He.ga K "BadSize")) "__init__") (some (some (.ref (He.ma K (He.ga K "BadSize") "__init__")))) && (decide (PySem.W.typeIn K (.ref (He.ma K (He.ga K "BadSize") "__init__")) = some (.type "function")))))))))))))))))))))
def hdB3 (K : PySem.W.Frag) : Bool := He.eqO (PySem.W.findIn K (.ref (He.ga K "BadSize")) "size") (some none) && (He.eqO (PySem.W.findIn K (.ref (He.ga K "BadSize")) "__getattribute__") (some (some (.builtin "BaseException.__getattribute__"))) && (He.eqO (PySem.W.findIn K (.ref (He.ga K "BadSize")) "__getattr__") (some none) && (PySem.W.hasDictIn K (He.ga K "BadSize") && (He.eqO (PySem.W.findIn K (.ref (He.ga K "BadSize")) "__class__") (some (some (.builtin "object.__class__"))) && (decide (PySem.W.mroIn K (He.ga K "BadSize") (.type "object") = some true) && (decide (PySem.W.subIn K (.ref (He.ga K "BadSize")) (.ref (He.ga K "BadSize")) = some true) && ((PySem.W.clsIn K (He.ga K "BadSize")).isSome && ((PySem.W.clsIn K (He.ga K "BadTable")).isSome && (decide (PySem.W.typeIn K (.ref (He.ga K "BadTable")) = some (.type "type")) && (decide (PySem.W.subIn K (.ref (He.ga K "BadSize")) (.ref (He.ga K "BadTable")) = some false) && ((PySem.W.clsIn K (He.ga K "UnknownWord")).isSome && (decide (PySem.W.typeIn K (.ref (He.ga K "UnknownWord")) = some (.type "type")) && (decide (PySem.W.subIn K (.ref (He.ga K "BadSize")) (.ref (He.ga K "UnknownWord")) = some false) && ((PySem.W.clsIn K (He.ga K "SizeMismatch")).isSome && (decide (PySem.W.typeIn K (.ref (He.ga K "SizeMismatch")) = some (.type "type")) && (decide (PySem.W.subIn K (.ref (He.ga K "BadSize")) (.ref (He.ga K "SizeMismatch")) = some false) && ((PySem.W.clsIn K (He.ga K "BadCount")).isSome && (decide (PySem.W.typeIn K (.ref (He.ga K "BadCount")) = some (.type "type")) && (decide (PySem.W.subIn K (.ref (He.ga K "BadSize")) (.ref (He.ga K "BadCount")) = some false))))))))))))))))))))
def hdB4 (K : PySem.W.Frag) : Bool := (PySem.W.clsIn K (He.ga K "BadPerson")).isSome && (decide (PySem.W.typeIn K (.ref (He.ga K "BadPerson")) = some (.type "type")) && (decide (PySem.W.subIn K (.ref (He.ga K "BadSize")) (.ref (He.ga K "BadPerson")) = some false) && ((PySem.W.clsIn K (He.ga K "BadLetter")).isSome && (decide (PySem.W.typeIn K (.ref (He.ga K "BadLetter")) = some (.type "type")) && (decide (PySem.W.subIn K (.ref (He.ga K "BadSize")) (.ref (He.ga K "BadLetter")) = some false) && ((PySem.W.clsIn K (He.ga K "UnknownPerson")).isSome && (decide (PySem.W.typeIn K (.ref (He.ga K "UnknownPerson")) = some (.type "type")) && (decide (PySem.W.subIn K (.ref (He.ga K "BadSize")) (.ref (He.ga K "UnknownPerson")) = some false) && ((PySem.W.clsIn K (He.ga K "TooMany")).isSome && (decide (PySem.W.typeIn K (.ref (He.ga K "TooMany")) = some (.type "type")) && (decide (PySem.W.subIn K (.ref (He.ga K "BadSize")) (.ref (He.ga K "TooMany")) = some false) && ((PySem.W.clsIn K (He.ga K "BadPattern")).isSome && (decide (PySem.W.typeIn K (.ref (He.ga K "BadPattern")) = some (.type "type")) && (decide (PySem.W.subIn K (.ref (He.ga K "BadSize")) (.ref (He.ga K "BadPattern")) = some false) && ((PySem.W.clsIn K (He.ga K "SameWord")).isSome && (decide (PySem.W.typeIn K (.ref (He.ga K "SameWord")) = some (.type "type")) && (decide (PySem.W.subIn K (.ref (He.ga K "BadSize")) (.ref (He.ga K "SameWord")) = some false) && ((PySem.W.clsIn K (He.ga K "UnknownClue")).isSome && (decide (PySem.W.typeIn K (.ref (He.ga K "UnknownClue")) = some (.type "type")))))))))))))))))))))
def hdB5 (K : PySem.W.Frag) : Bool := decide (PySem.W.subIn K (.ref (He.ga K "BadSize")) (.ref (He.ga K "UnknownClue")) = some false) && ((PySem.W.clsIn K (He.ga K "BadPlace")).isSome && (decide (PySem.W.typeIn K (.ref (He.ga K "BadPlace")) = some (.type "type")) && (decide (PySem.W.subIn K (.ref (He.ga K "BadSize")) (.ref (He.ga K "BadPlace")) = some false) && ((PySem.W.clsIn K (He.ga K "TooLong")).isSome && (decide (PySem.W.typeIn K (.ref (He.ga K "TooLong")) = some (.type "type")) && (decide (PySem.W.subIn K (.ref (He.ga K "BadSize")) (.ref (He.ga K "TooLong")) = some false) && ((PySem.W.clsIn K (He.ga K "Melted")).isSome && (decide (PySem.W.typeIn K (.ref (He.ga K "Melted")) = some (.type "type")) && (decide (PySem.W.subIn K (.ref (He.ga K "BadSize")) (.ref (He.ga K "Melted")) = some false) && ((PySem.W.clsIn K (He.ga K "NothingToUndo")).isSome && (decide (PySem.W.typeIn K (.ref (He.ga K "NothingToUndo")) = some (.type "type")) && (decide (PySem.W.subIn K (.ref (He.ga K "BadSize")) (.ref (He.ga K "NothingToUndo")) = some false) && ((PySem.W.clsIn K (He.ga K "NothingToRedo")).isSome && (decide (PySem.W.typeIn K (.ref (He.ga K "NothingToRedo")) = some (.type "type")) && (decide (PySem.W.subIn K (.ref (He.ga K "BadSize")) (.ref (He.ga K "NothingToRedo")) = some false) && ((PySem.W.clsIn K (He.ga K "Refused")).isSome && (decide (PySem.W.typeIn K (.ref (He.ga K "Refused")) = some (.type "type")) && (decide (PySem.W.subIn K (.ref (He.ga K "BadSize")) (.ref (He.ga K "Refused")) = some false) && ((PySem.W.clsIn K (He.ga K "BadLine")).isSome)))))))))))))))))))
def hdB6 (K : PySem.W.Frag) : Bool := decide (PySem.W.typeIn K (.ref (He.ga K "BadLine")) = some (.type "type")) && (decide (PySem.W.subIn K (.ref (He.ga K "BadSize")) (.ref (He.ga K "BadLine")) = some false) && ((PySem.W.clsIn K (He.ga K "MurmurError")).isSome && (decide (PySem.W.typeIn K (.ref (He.ga K "MurmurError")) = some (.type "type")) && (decide (PySem.W.subIn K (.ref (He.ga K "BadSize")) (.ref (He.ga K "MurmurError")) = some true) && (Hd.ecB K (He.ga K "BadTable") && (He.eqO (PySem.W.findIn K (.ref (He.ga K "BadTable")) "__setattr__") (some (some (.builtin "object.__setattr__"))) && (decide (PySem.W.subIn K (.ref (He.ga K "BadTable")) (.type "BaseException") = some true) && (PySem.W.keepIn K (.ref (He.ga K "BadTable")) && (decide (PySem.W.mroIn K (He.ga K "BadTable") (.ref (He.ga K "BadTable")) = some true) && (decide (PySem.W.subIn K (.ref (He.ga K "BadTable")) (.type "ValueError") = some true) && (He.eqO (PySem.W.ks_superIn K (He.ga K "BadTable") (He.ga K "BadTable") "__init__") (some (some (.builtin "ValueError.__init__"))) && (Hd.fileB K (Hd.codeOf K (He.ma K (He.ga K "BadTable") "__init__")) (PySem.Challenge.rw_murmurline_k77_whole_family_of_errors).prog.main.file && (Hd.cellB K (Hd.cellOf K (He.ma K (He.ga K "BadTable") "__init__")) (He.ga K "BadTable") && (He.eqO (PySem.W.findIn K (.ref (He.ga K "BadTable")) "__init__") (some (some (.ref (He.ma K (He.ga K "BadTable") "__init__")))) && (decide (PySem.W.typeIn K (.ref (He.ma K (He.ga K "BadTable") "__init__")) = some (.type "function")) && (He.eqO (PySem.W.findIn K (.ref (He.ga K "BadTable")) "index") (some none) && (He.eqO (PySem.W.findIn K (.ref (He.ga K "BadTable")) "__getattribute__") (some (some (.builtin "BaseException.__getattribute__"))) && (He.eqO (PySem.W.findIn K (.ref (He.ga K "BadTable")) "__getattr__") (some none) && (PySem.W.hasDictIn K (He.ga K "BadTable"))))))))))))))))))))
def hdB7 (K : PySem.W.Frag) : Bool := He.eqO (PySem.W.findIn K (.ref (He.ga K "BadTable")) "__class__") (some (some (.builtin "object.__class__"))) && (decide (PySem.W.mroIn K (He.ga K "BadTable") (.type "object") = some true) && (decide (PySem.W.subIn K (.ref (He.ga K "BadTable")) (.ref (He.ga K "BadTable")) = some true) && (decide (PySem.W.subIn K (.ref (He.ga K "BadTable")) (.ref (He.ga K "BadSize")) = some false) && (decide (PySem.W.subIn K (.ref (He.ga K "BadTable")) (.ref (He.ga K "UnknownWord")) = some false) && (decide (PySem.W.subIn K (.ref (He.ga K "BadTable")) (.ref (He.ga K "SizeMismatch")) = some false) && (decide (PySem.W.subIn K (.ref (He.ga K "BadTable")) (.ref (He.ga K "BadCount")) = some false) && (decide (PySem.W.subIn K (.ref (He.ga K "BadTable")) (.ref (He.ga K "BadPerson")) = some false) && (decide (PySem.W.subIn K (.ref (He.ga K "BadTable")) (.ref (He.ga K "BadLetter")) = some false) && (decide (PySem.W.subIn K (.ref (He.ga K "BadTable")) (.ref (He.ga K "UnknownPerson")) = some false) && (decide (PySem.W.subIn K (.ref (He.ga K "BadTable")) (.ref (He.ga K "TooMany")) = some false) && (decide (PySem.W.subIn K (.ref (He.ga K "BadTable")) (.ref (He.ga K "BadPattern")) = some false) && (decide (PySem.W.subIn K (.ref (He.ga K "BadTable")) (.ref (He.ga K "SameWord")) = some false) && (decide (PySem.W.subIn K (.ref (He.ga K "BadTable")) (.ref (He.ga K "UnknownClue")) = some false) && (decide (PySem.W.subIn K (.ref (He.ga K "BadTable")) (.ref (He.ga K "BadPlace")) = some false) && (decide (PySem.W.subIn K (.ref (He.ga K "BadTable")) (.ref (He.ga K "TooLong")) = some false) && (decide (PySem.W.subIn K (.ref (He.ga K "BadTable")) (.ref (He.ga K "Melted")) = some false) && (decide (PySem.W.subIn K (.ref (He.ga K "BadTable")) (.ref (He.ga K "NothingToUndo")) = some false) && (decide (PySem.W.subIn K (.ref (He.ga K "BadTable")) (.ref (He.ga K "NothingToRedo")) = some false) && (decide (PySem.W.subIn K (.ref (He.ga K "BadTable")) (.ref (He.ga K "Refused")) = some false))))))))))))))))))))
def hdB8 (K : PySem.W.Frag) : Bool := decide (PySem.W.subIn K (.ref (He.ga K "BadTable")) (.ref (He.ga K "BadLine")) = some false) && (decide (PySem.W.subIn K (.ref (He.ga K "BadTable")) (.ref (He.ga K "MurmurError")) = some true) && (Hd.ecB K (He.ga K "UnknownWord") && (He.eqO (PySem.W.findIn K (.ref (He.ga K "UnknownWord")) "__setattr__") (some (some (.builtin "object.__setattr__"))) && (decide (PySem.W.subIn K (.ref (He.ga K "UnknownWord")) (.type "BaseException") = some true) && (PySem.W.keepIn K (.ref (He.ga K "UnknownWord")) && (decide (PySem.W.mroIn K (He.ga K "UnknownWord") (.ref (He.ga K "UnknownWord")) = some true) && (decide (PySem.W.subIn K (.ref (He.ga K "UnknownWord")) (.type "ValueError") = some true) && (He.eqO (PySem.W.ks_superIn K (He.ga K "UnknownWord") (He.ga K "UnknownWord") "__init__") (some (some (.builtin "ValueError.__init__"))) && (Hd.fileB K (Hd.codeOf K (He.ma K (He.ga K "UnknownWord") "__init__")) (PySem.Challenge.rw_murmurline_k77_whole_family_of_errors).prog.main.file && (Hd.cellB K (Hd.cellOf K (He.ma K (He.ga K "UnknownWord") "__init__")) (He.ga K "UnknownWord") && (He.eqO (PySem.W.findIn K (.ref (He.ga K "UnknownWord")) "__init__") (some (some (.ref (He.ma K (He.ga K "UnknownWord") "__init__")))) && (decide (PySem.W.typeIn K (.ref (He.ma K (He.ga K "UnknownWord") "__init__")) = some (.type "function")) && (He.eqO (PySem.W.findIn K (.ref (He.ga K "UnknownWord")) "word") (some none) && (He.eqO (PySem.W.findIn K (.ref (He.ga K "UnknownWord")) "__getattribute__") (some (some (.builtin "BaseException.__getattribute__"))) && (He.eqO (PySem.W.findIn K (.ref (He.ga K "UnknownWord")) "__getattr__") (some none) && (PySem.W.hasDictIn K (He.ga K "UnknownWord") && (He.eqO (PySem.W.findIn K (.ref (He.ga K "UnknownWord")) "__class__") (some (some (.builtin "object.__class__"))) && (decide (PySem.W.mroIn K (He.ga K "UnknownWord") (.type "object") = some true) && (decide (PySem.W.subIn K (.ref (He.ga K "UnknownWord")) (.ref (He.ga K "UnknownWord")) = some true))))))))))))))))))))
def hdB9 (K : PySem.W.Frag) : Bool := decide (PySem.W.subIn K (.ref (He.ga K "UnknownWord")) (.ref (He.ga K "BadSize")) = some false) && (decide (PySem.W.subIn K (.ref (He.ga K "UnknownWord")) (.ref (He.ga K "BadTable")) = some false) && (decide (PySem.W.subIn K (.ref (He.ga K "UnknownWord")) (.ref (He.ga K "SizeMismatch")) = some false) && (decide (PySem.W.subIn K (.ref (He.ga K "UnknownWord")) (.ref (He.ga K "BadCount")) = some false) && (decide (PySem.W.subIn K (.ref (He.ga K "UnknownWord")) (.ref (He.ga K "BadPerson")) = some false) && (decide (PySem.W.subIn K (.ref (He.ga K "UnknownWord")) (.ref (He.ga K "BadLetter")) = some false) && (decide (PySem.W.subIn K (.ref (He.ga K "UnknownWord")) (.ref (He.ga K "UnknownPerson")) = some false) && (decide (PySem.W.subIn K (.ref (He.ga K "UnknownWord")) (.ref (He.ga K "TooMany")) = some false) && (decide (PySem.W.subIn K (.ref (He.ga K "UnknownWord")) (.ref (He.ga K "BadPattern")) = some false) && (decide (PySem.W.subIn K (.ref (He.ga K "UnknownWord")) (.ref (He.ga K "SameWord")) = some false) && (decide (PySem.W.subIn K (.ref (He.ga K "UnknownWord")) (.ref (He.ga K "UnknownClue")) = some false) && (decide (PySem.W.subIn K (.ref (He.ga K "UnknownWord")) (.ref (He.ga K "BadPlace")) = some false) && (decide (PySem.W.subIn K (.ref (He.ga K "UnknownWord")) (.ref (He.ga K "TooLong")) = some false) && (decide (PySem.W.subIn K (.ref (He.ga K "UnknownWord")) (.ref (He.ga K "Melted")) = some false) && (decide (PySem.W.subIn K (.ref (He.ga K "UnknownWord")) (.ref (He.ga K "NothingToUndo")) = some false) && (decide (PySem.W.subIn K (.ref (He.ga K "UnknownWord")) (.ref (He.ga K "NothingToRedo")) = some false) && (decide (PySem.W.subIn K (.ref (He.ga K "UnknownWord")) (.ref (He.ga K "Refused")) = some false) && (decide (PySem.W.subIn K (.ref (He.ga K "UnknownWord")) (.ref (He.ga K "BadLine")) = some false) && (decide (PySem.W.subIn K (.ref (He.ga K "UnknownWord")) (.ref (He.ga K "MurmurError")) = some true) && (Hd.ecB K (He.ga K "SizeMismatch"))))))))))))))))))))
def hdB10 (K : PySem.W.Frag) : Bool := He.eqO (PySem.W.findIn K (.ref (He.ga K "SizeMismatch")) "__setattr__") (some (some (.builtin "object.__setattr__"))) && (decide (PySem.W.subIn K (.ref (He.ga K "SizeMismatch")) (.type "BaseException") = some true) && (PySem.W.keepIn K (.ref (He.ga K "SizeMismatch")) && (decide (PySem.W.mroIn K (He.ga K "SizeMismatch") (.ref (He.ga K "SizeMismatch")) = some true) && (decide (PySem.W.subIn K (.ref (He.ga K "SizeMismatch")) (.type "ValueError") = some true) && (He.eqO (PySem.W.ks_superIn K (He.ga K "SizeMismatch") (He.ga K "SizeMismatch") "__init__") (some (some (.builtin "ValueError.__init__"))) && (Hd.fileB K (Hd.codeOf K (He.ma K (He.ga K "SizeMismatch") "__init__")) (PySem.Challenge.rw_murmurline_k77_whole_family_of_errors).prog.main.file && (Hd.cellB K (Hd.cellOf K (He.ma K (He.ga K "SizeMismatch") "__init__")) (He.ga K "SizeMismatch") && (He.eqO (PySem.W.findIn K (.ref (He.ga K "SizeMismatch")) "__init__") (some (some (.ref (He.ma K (He.ga K "SizeMismatch") "__init__")))) && (decide (PySem.W.typeIn K (.ref (He.ma K (He.ga K "SizeMismatch") "__init__")) = some (.type "function")) && (He.eqO (PySem.W.findIn K (.ref (He.ga K "SizeMismatch")) "first") (some none) && (He.eqO (PySem.W.findIn K (.ref (He.ga K "SizeMismatch")) "second") (some none) && (He.eqO (PySem.W.findIn K (.ref (He.ga K "SizeMismatch")) "__getattribute__") (some (some (.builtin "BaseException.__getattribute__"))) && (He.eqO (PySem.W.findIn K (.ref (He.ga K "SizeMismatch")) "__getattr__") (some none) && (PySem.W.hasDictIn K (He.ga K "SizeMismatch") && (He.eqO (PySem.W.findIn K (.ref (He.ga K "SizeMismatch")) "__class__") (some (some (.builtin "object.__class__"))) && (decide (PySem.W.mroIn K (He.ga K "SizeMismatch") (.type "object") = some true) && (decide (PySem.W.subIn K (.ref (He.ga K "SizeMismatch")) (.ref (He.ga K "SizeMismatch")) = some true) && (decide (PySem.W.subIn K (.ref (He.ga K "SizeMismatch")) (.ref (He.ga K "BadSize")) = some false) && (decide (PySem.W.subIn K (.ref (He.ga K "SizeMismatch")) (.ref (He.ga K "BadTable")) = some false))))))))))))))))))))
def hdB11 (K : PySem.W.Frag) : Bool := decide (PySem.W.subIn K (.ref (He.ga K "SizeMismatch")) (.ref (He.ga K "UnknownWord")) = some false) && (decide (PySem.W.subIn K (.ref (He.ga K "SizeMismatch")) (.ref (He.ga K "BadCount")) = some false) && (decide (PySem.W.subIn K (.ref (He.ga K "SizeMismatch")) (.ref (He.ga K "BadPerson")) = some false) && (decide (PySem.W.subIn K (.ref (He.ga K "SizeMismatch")) (.ref (He.ga K "BadLetter")) = some false) && (decide (PySem.W.subIn K (.ref (He.ga K "SizeMismatch")) (.ref (He.ga K "UnknownPerson")) = some false) && (decide (PySem.W.subIn K (.ref (He.ga K "SizeMismatch")) (.ref (He.ga K "TooMany")) = some false) && (decide (PySem.W.subIn K (.ref (He.ga K "SizeMismatch")) (.ref (He.ga K "BadPattern")) = some false) && (decide (PySem.W.subIn K (.ref (He.ga K "SizeMismatch")) (.ref (He.ga K "SameWord")) = some false) && (decide (PySem.W.subIn K (.ref (He.ga K "SizeMismatch")) (.ref (He.ga K "UnknownClue")) = some false) && (decide (PySem.W.subIn K (.ref (He.ga K "SizeMismatch")) (.ref (He.ga K "BadPlace")) = some false) && (decide (PySem.W.subIn K (.ref (He.ga K "SizeMismatch")) (.ref (He.ga K "TooLong")) = some false) && (decide (PySem.W.subIn K (.ref (He.ga K "SizeMismatch")) (.ref (He.ga K "Melted")) = some false) && (decide (PySem.W.subIn K (.ref (He.ga K "SizeMismatch")) (.ref (He.ga K "NothingToUndo")) = some false) && (decide (PySem.W.subIn K (.ref (He.ga K "SizeMismatch")) (.ref (He.ga K "NothingToRedo")) = some false) && (decide (PySem.W.subIn K (.ref (He.ga K "SizeMismatch")) (.ref (He.ga K "Refused")) = some false) && (decide (PySem.W.subIn K (.ref (He.ga K "SizeMismatch")) (.ref (He.ga K "BadLine")) = some false) && (decide (PySem.W.subIn K (.ref (He.ga K "SizeMismatch")) (.ref (He.ga K "MurmurError")) = some true) && (Hd.ecB K (He.ga K "BadCount") && (He.eqO (PySem.W.findIn K (.ref (He.ga K "BadCount")) "__setattr__") (some (some (.builtin "object.__setattr__"))) && (decide (PySem.W.subIn K (.ref (He.ga K "BadCount")) (.type "BaseException") = some true))))))))))))))))))))
def hdB12 (K : PySem.W.Frag) : Bool := PySem.W.keepIn K (.ref (He.ga K "BadCount")) && (decide (PySem.W.mroIn K (He.ga K "BadCount") (.ref (He.ga K "BadCount")) = some true) && (decide (PySem.W.subIn K (.ref (He.ga K "BadCount")) (.type "ValueError") = some true) && (He.eqO (PySem.W.ks_superIn K (He.ga K "BadCount") (He.ga K "BadCount") "__init__") (some (some (.builtin "ValueError.__init__"))) && (Hd.fileB K (Hd.codeOf K (He.ma K (He.ga K "BadCount") "__init__")) (PySem.Challenge.rw_murmurline_k77_whole_family_of_errors).prog.main.file && (Hd.cellB K (Hd.cellOf K (He.ma K (He.ga K "BadCount") "__init__")) (He.ga K "BadCount") && (He.eqO (PySem.W.findIn K (.ref (He.ga K "BadCount")) "__init__") (some (some (.ref (He.ma K (He.ga K "BadCount") "__init__")))) && (decide (PySem.W.typeIn K (.ref (He.ma K (He.ga K "BadCount") "__init__")) = some (.type "function")) && (He.eqO (PySem.W.findIn K (.ref (He.ga K "BadCount")) "count") (some none) && (He.eqO (PySem.W.findIn K (.ref (He.ga K "BadCount")) "__getattribute__") (some (some (.builtin "BaseException.__getattribute__"))) && (He.eqO (PySem.W.findIn K (.ref (He.ga K "BadCount")) "__getattr__") (some none) && (PySem.W.hasDictIn K (He.ga K "BadCount") && (He.eqO (PySem.W.findIn K (.ref (He.ga K "BadCount")) "__class__") (some (some (.builtin "object.__class__"))) && (decide (PySem.W.mroIn K (He.ga K "BadCount") (.type "object") = some true) && (decide (PySem.W.subIn K (.ref (He.ga K "BadCount")) (.ref (He.ga K "BadCount")) = some true) && (decide (PySem.W.subIn K (.ref (He.ga K "BadCount")) (.ref (He.ga K "BadSize")) = some false) && (decide (PySem.W.subIn K (.ref (He.ga K "BadCount")) (.ref (He.ga K "BadTable")) = some false) && (decide (PySem.W.subIn K (.ref (He.ga K "BadCount")) (.ref (He.ga K "UnknownWord")) = some false) && (decide (PySem.W.subIn K (.ref (He.ga K "BadCount")) (.ref (He.ga K "SizeMismatch")) = some false) && (decide (PySem.W.subIn K (.ref (He.ga K "BadCount")) (.ref (He.ga K "BadPerson")) = some false))))))))))))))))))))
def hdB13 (K : PySem.W.Frag) : Bool := decide (PySem.W.subIn K (.ref (He.ga K "BadCount")) (.ref (He.ga K "BadLetter")) = some false) && (decide (PySem.W.subIn K (.ref (He.ga K "BadCount")) (.ref (He.ga K "UnknownPerson")) = some false) && (decide (PySem.W.subIn K (.ref (He.ga K "BadCount")) (.ref (He.ga K "TooMany")) = some false) && (decide (PySem.W.subIn K (.ref (He.ga K "BadCount")) (.ref (He.ga K "BadPattern")) = some false) && (decide (PySem.W.subIn K (.ref (He.ga K "BadCount")) (.ref (He.ga K "SameWord")) = some false) && (decide (PySem.W.subIn K (.ref (He.ga K "BadCount")) (.ref (He.ga K "UnknownClue")) = some false) && (decide (PySem.W.subIn K (.ref (He.ga K "BadCount")) (.ref (He.ga K "BadPlace")) = some false) && (decide (PySem.W.subIn K (.ref (He.ga K "BadCount")) (.ref (He.ga K "TooLong")) = some false) && (decide (PySem.W.subIn K (.ref (He.ga K "BadCount")) (.ref (He.ga K "Melted")) = some false) && (decide (PySem.W.subIn K (.ref (He.ga K "BadCount")) (.ref (He.ga K "NothingToUndo")) = some false) && (decide (PySem.W.subIn K (.ref (He.ga K "BadCount")) (.ref (He.ga K "NothingToRedo")) = some false) && (decide (PySem.W.subIn K (.ref (He.ga K "BadCount")) (.ref (He.ga K "Refused")) = some false) && (decide (PySem.W.subIn K (.ref (He.ga K "BadCount")) (.ref (He.ga K "BadLine")) = some false) && (decide (PySem.W.subIn K (.ref (He.ga K "BadCount")) (.ref (He.ga K "MurmurError")) = some true) && (Hd.ecB K (He.ga K "BadPerson") && (He.eqO (PySem.W.findIn K (.ref (He.ga K "BadPerson")) "__setattr__") (some (some (.builtin "object.__setattr__"))) && (decide (PySem.W.subIn K (.ref (He.ga K "BadPerson")) (.type "BaseException") = some true) && (PySem.W.keepIn K (.ref (He.ga K "BadPerson")) && (decide (PySem.W.mroIn K (He.ga K "BadPerson") (.ref (He.ga K "BadPerson")) = some true) && (decide (PySem.W.subIn K (.ref (He.ga K "BadPerson")) (.type "ValueError") = some true))))))))))))))))))))
def hdB14 (K : PySem.W.Frag) : Bool := He.eqO (PySem.W.ks_superIn K (He.ga K "BadPerson") (He.ga K "BadPerson") "__init__") (some (some (.builtin "ValueError.__init__"))) && (Hd.fileB K (Hd.codeOf K (He.ma K (He.ga K "BadPerson") "__init__")) (PySem.Challenge.rw_murmurline_k77_whole_family_of_errors).prog.main.file && (Hd.cellB K (Hd.cellOf K (He.ma K (He.ga K "BadPerson") "__init__")) (He.ga K "BadPerson") && (He.eqO (PySem.W.findIn K (.ref (He.ga K "BadPerson")) "__init__") (some (some (.ref (He.ma K (He.ga K "BadPerson") "__init__")))) && (decide (PySem.W.typeIn K (.ref (He.ma K (He.ga K "BadPerson") "__init__")) = some (.type "function")) && (He.eqO (PySem.W.findIn K (.ref (He.ga K "BadPerson")) "part") (some none) && (He.eqO (PySem.W.findIn K (.ref (He.ga K "BadPerson")) "__getattribute__") (some (some (.builtin "BaseException.__getattribute__"))) && (He.eqO (PySem.W.findIn K (.ref (He.ga K "BadPerson")) "__getattr__") (some none) && (PySem.W.hasDictIn K (He.ga K "BadPerson") && (He.eqO (PySem.W.findIn K (.ref (He.ga K "BadPerson")) "__class__") (some (some (.builtin "object.__class__"))) && (decide (PySem.W.mroIn K (He.ga K "BadPerson") (.type "object") = some true) && (decide (PySem.W.subIn K (.ref (He.ga K "BadPerson")) (.ref (He.ga K "BadPerson")) = some true) && (decide (PySem.W.subIn K (.ref (He.ga K "BadPerson")) (.ref (He.ga K "BadSize")) = some false) && (decide (PySem.W.subIn K (.ref (He.ga K "BadPerson")) (.ref (He.ga K "BadTable")) = some false) && (decide (PySem.W.subIn K (.ref (He.ga K "BadPerson")) (.ref (He.ga K "UnknownWord")) = some false) && (decide (PySem.W.subIn K (.ref (He.ga K "BadPerson")) (.ref (He.ga K "SizeMismatch")) = some false) && (decide (PySem.W.subIn K (.ref (He.ga K "BadPerson")) (.ref (He.ga K "BadCount")) = some false) && (decide (PySem.W.subIn K (.ref (He.ga K "BadPerson")) (.ref (He.ga K "BadLetter")) = some false) && (decide (PySem.W.subIn K (.ref (He.ga K "BadPerson")) (.ref (He.ga K "UnknownPerson")) = some false) && (decide (PySem.W.subIn K (.ref (He.ga K "BadPerson")) (.ref (He.ga K "TooMany")) = some false))))))))))))))))))))
def hdB15 (K : PySem.W.Frag) : Bool := decide (PySem.W.subIn K (.ref (He.ga K "BadPerson")) (.ref (He.ga K "BadPattern")) = some false) && (decide (PySem.W.subIn K (.ref (He.ga K "BadPerson")) (.ref (He.ga K "SameWord")) = some false) && (decide (PySem.W.subIn K (.ref (He.ga K "BadPerson")) (.ref (He.ga K "UnknownClue")) = some false) && (decide (PySem.W.subIn K (.ref (He.ga K "BadPerson")) (.ref (He.ga K "BadPlace")) = some false) && (decide (PySem.W.subIn K (.ref (He.ga K "BadPerson")) (.ref (He.ga K "TooLong")) = some false) && (decide (PySem.W.subIn K (.ref (He.ga K "BadPerson")) (.ref (He.ga K "Melted")) = some false) && (decide (PySem.W.subIn K (.ref (He.ga K "BadPerson")) (.ref (He.ga K "NothingToUndo")) = some false) && (decide (PySem.W.subIn K (.ref (He.ga K "BadPerson")) (.ref (He.ga K "NothingToRedo")) = some false) && (decide (PySem.W.subIn K (.ref (He.ga K "BadPerson")) (.ref (He.ga K "Refused")) = some false) && (decide (PySem.W.subIn K (.ref (He.ga K "BadPerson")) (.ref (He.ga K "BadLine")) = some false) && (decide (PySem.W.subIn K (.ref (He.ga K "BadPerson")) (.ref (He.ga K "MurmurError")) = some true) && (Hd.ecB K (He.ga K "BadLetter") && (He.eqO (PySem.W.findIn K (.ref (He.ga K "BadLetter")) "__setattr__") (some (some (.builtin "object.__setattr__"))) && (decide (PySem.W.subIn K (.ref (He.ga K "BadLetter")) (.type "BaseException") = some true) && (PySem.W.keepIn K (.ref (He.ga K "BadLetter")) && (decide (PySem.W.mroIn K (He.ga K "BadLetter") (.ref (He.ga K "BadLetter")) = some true) && (decide (PySem.W.subIn K (.ref (He.ga K "BadLetter")) (.type "ValueError") = some true) && (He.eqO (PySem.W.ks_superIn K (He.ga K "BadLetter") (He.ga K "BadLetter") "__init__") (some (some (.builtin "ValueError.__init__"))) && (Hd.fileB K (Hd.codeOf K (He.ma K (He.ga K "BadLetter") "__init__")) (PySem.Challenge.rw_murmurline_k77_whole_family_of_errors).prog.main.file && (Hd.cellB K (Hd.cellOf K (He.ma K (He.ga K "BadLetter") "__init__")) (He.ga K "BadLetter"))))))))))))))))))))
def hdB16 (K : PySem.W.Frag) : Bool := He.eqO (PySem.W.findIn K (.ref (He.ga K "BadLetter")) "__init__") (some (some (.ref (He.ma K (He.ga K "BadLetter") "__init__")))) && (decide (PySem.W.typeIn K (.ref (He.ma K (He.ga K "BadLetter") "__init__")) = some (.type "function")) && (He.eqO (PySem.W.findIn K (.ref (He.ga K "BadLetter")) "letter") (some none) && (He.eqO (PySem.W.findIn K (.ref (He.ga K "BadLetter")) "__getattribute__") (some (some (.builtin "BaseException.__getattribute__"))) && (He.eqO (PySem.W.findIn K (.ref (He.ga K "BadLetter")) "__getattr__") (some none) && (PySem.W.hasDictIn K (He.ga K "BadLetter") && (He.eqO (PySem.W.findIn K (.ref (He.ga K "BadLetter")) "__class__") (some (some (.builtin "object.__class__"))) && (decide (PySem.W.mroIn K (He.ga K "BadLetter") (.type "object") = some true) && (decide (PySem.W.subIn K (.ref (He.ga K "BadLetter")) (.ref (He.ga K "BadLetter")) = some true) && (decide (PySem.W.subIn K (.ref (He.ga K "BadLetter")) (.ref (He.ga K "BadSize")) = some false) && (decide (PySem.W.subIn K (.ref (He.ga K "BadLetter")) (.ref (He.ga K "BadTable")) = some false) && (decide (PySem.W.subIn K (.ref (He.ga K "BadLetter")) (.ref (He.ga K "UnknownWord")) = some false) && (decide (PySem.W.subIn K (.ref (He.ga K "BadLetter")) (.ref (He.ga K "SizeMismatch")) = some false) && (decide (PySem.W.subIn K (.ref (He.ga K "BadLetter")) (.ref (He.ga K "BadCount")) = some false) && (decide (PySem.W.subIn K (.ref (He.ga K "BadLetter")) (.ref (He.ga K "BadPerson")) = some false) && (decide (PySem.W.subIn K (.ref (He.ga K "BadLetter")) (.ref (He.ga K "UnknownPerson")) = some false) && (decide (PySem.W.subIn K (.ref (He.ga K "BadLetter")) (.ref (He.ga K "TooMany")) = some false) && (decide (PySem.W.subIn K (.ref (He.ga K "BadLetter")) (.ref (He.ga K "BadPattern")) = some false) && (decide (PySem.W.subIn K (.ref (He.ga K "BadLetter")) (.ref (He.ga K "SameWord")) = some false) && (decide (PySem.W.subIn K (.ref (He.ga K "BadLetter")) (.ref (He.ga K "UnknownClue")) = some false))))))))))))))))))))
def hdB17 (K : PySem.W.Frag) : Bool := decide (PySem.W.subIn K (.ref (He.ga K "BadLetter")) (.ref (He.ga K "BadPlace")) = some false) && (decide (PySem.W.subIn K (.ref (He.ga K "BadLetter")) (.ref (He.ga K "TooLong")) = some false) && (decide (PySem.W.subIn K (.ref (He.ga K "BadLetter")) (.ref (He.ga K "Melted")) = some false) && (decide (PySem.W.subIn K (.ref (He.ga K "BadLetter")) (.ref (He.ga K "NothingToUndo")) = some false) && (decide (PySem.W.subIn K (.ref (He.ga K "BadLetter")) (.ref (He.ga K "NothingToRedo")) = some false) && (decide (PySem.W.subIn K (.ref (He.ga K "BadLetter")) (.ref (He.ga K "Refused")) = some false) && (decide (PySem.W.subIn K (.ref (He.ga K "BadLetter")) (.ref (He.ga K "BadLine")) = some false) && (decide (PySem.W.subIn K (.ref (He.ga K "BadLetter")) (.ref (He.ga K "MurmurError")) = some true) && (Hd.ecB K (He.ga K "UnknownPerson") && (He.eqO (PySem.W.findIn K (.ref (He.ga K "UnknownPerson")) "__setattr__") (some (some (.builtin "object.__setattr__"))) && (decide (PySem.W.subIn K (.ref (He.ga K "UnknownPerson")) (.type "BaseException") = some true) && (PySem.W.keepIn K (.ref (He.ga K "UnknownPerson")) && (decide (PySem.W.mroIn K (He.ga K "UnknownPerson") (.ref (He.ga K "UnknownPerson")) = some true) && (decide (PySem.W.subIn K (.ref (He.ga K "UnknownPerson")) (.type "ValueError") = some true) && (He.eqO (PySem.W.ks_superIn K (He.ga K "UnknownPerson") (He.ga K "UnknownPerson") "__init__") (some (some (.builtin "ValueError.__init__"))) && (Hd.fileB K (Hd.codeOf K (He.ma K (He.ga K "UnknownPerson") "__init__")) (PySem.Challenge.rw_murmurline_k77_whole_family_of_errors).prog.main.file && (Hd.cellB K (Hd.cellOf K (He.ma K (He.ga K "UnknownPerson") "__init__")) (He.ga K "UnknownPerson") && (He.eqO (PySem.W.findIn K (.ref (He.ga K "UnknownPerson")) "__init__") (some (some (.ref (He.ma K (He.ga K "UnknownPerson") "__init__")))) && (decide (PySem.W.typeIn K (.ref (He.ma K (He.ga K "UnknownPerson") "__init__")) = some (.type "function")) && (He.eqO (PySem.W.findIn K (.ref (He.ga K "UnknownPerson")) "letter") (some none))))))))))))))))))))
def hdB18 (K : PySem.W.Frag) : Bool := He.eqO (PySem.W.findIn K (.ref (He.ga K "UnknownPerson")) "place") (some none) && (He.eqO (PySem.W.findIn K (.ref (He.ga K "UnknownPerson")) "__getattribute__") (some (some (.builtin "BaseException.__getattribute__"))) && (He.eqO (PySem.W.findIn K (.ref (He.ga K "UnknownPerson")) "__getattr__") (some none) && (PySem.W.hasDictIn K (He.ga K "UnknownPerson") && (He.eqO (PySem.W.findIn K (.ref (He.ga K "UnknownPerson")) "__class__") (some (some (.builtin "object.__class__"))) && (decide (PySem.W.mroIn K (He.ga K "UnknownPerson") (.type "object") = some true) && (decide (PySem.W.subIn K (.ref (He.ga K "UnknownPerson")) (.ref (He.ga K "UnknownPerson")) = some true) && (decide (PySem.W.subIn K (.ref (He.ga K "UnknownPerson")) (.ref (He.ga K "BadSize")) = some false) && (decide (PySem.W.subIn K (.ref (He.ga K "UnknownPerson")) (.ref (He.ga K "BadTable")) = some false) && (decide (PySem.W.subIn K (.ref (He.ga K "UnknownPerson")) (.ref (He.ga K "UnknownWord")) = some false) && (decide (PySem.W.subIn K (.ref (He.ga K "UnknownPerson")) (.ref (He.ga K "SizeMismatch")) = some false) && (decide (PySem.W.subIn K (.ref (He.ga K "UnknownPerson")) (.ref (He.ga K "BadCount")) = some false) && (decide (PySem.W.subIn K (.ref (He.ga K "UnknownPerson")) (.ref (He.ga K "BadPerson")) = some false) && (decide (PySem.W.subIn K (.ref (He.ga K "UnknownPerson")) (.ref (He.ga K "BadLetter")) = some false) && (decide (PySem.W.subIn K (.ref (He.ga K "UnknownPerson")) (.ref (He.ga K "TooMany")) = some false) && (decide (PySem.W.subIn K (.ref (He.ga K "UnknownPerson")) (.ref (He.ga K "BadPattern")) = some false) && (decide (PySem.W.subIn K (.ref (He.ga K "UnknownPerson")) (.ref (He.ga K "SameWord")) = some false) && (decide (PySem.W.subIn K (.ref (He.ga K "UnknownPerson")) (.ref (He.ga K "UnknownClue")) = some false) && (decide (PySem.W.subIn K (.ref (He.ga K "UnknownPerson")) (.ref (He.ga K "BadPlace")) = some false) && (decide (PySem.W.subIn K (.ref (He.ga K "UnknownPerson")) (.ref (He.ga K "TooLong")) = some false))))))))))))))))))))
def hdB19 (K : PySem.W.Frag) : Bool := decide (PySem.W.subIn K (.ref (He.ga K "UnknownPerson")) (.ref (He.ga K "Melted")) = some false) && (decide (PySem.W.subIn K (.ref (He.ga K "UnknownPerson")) (.ref (He.ga K "NothingToUndo")) = some false) && (decide (PySem.W.subIn K (.ref (He.ga K "UnknownPerson")) (.ref (He.ga K "NothingToRedo")) = some false) && (decide (PySem.W.subIn K (.ref (He.ga K "UnknownPerson")) (.ref (He.ga K "Refused")) = some false) && (decide (PySem.W.subIn K (.ref (He.ga K "UnknownPerson")) (.ref (He.ga K "BadLine")) = some false) && (decide (PySem.W.subIn K (.ref (He.ga K "UnknownPerson")) (.ref (He.ga K "MurmurError")) = some true) && (Hd.ecB K (He.ga K "TooMany") && (He.eqO (PySem.W.findIn K (.ref (He.ga K "TooMany")) "__setattr__") (some (some (.builtin "object.__setattr__"))) && (decide (PySem.W.subIn K (.ref (He.ga K "TooMany")) (.type "BaseException") = some true) && (PySem.W.keepIn K (.ref (He.ga K "TooMany")) && (decide (PySem.W.mroIn K (He.ga K "TooMany") (.ref (He.ga K "TooMany")) = some true) && (decide (PySem.W.subIn K (.ref (He.ga K "TooMany")) (.type "ValueError") = some true) && (He.eqO (PySem.W.ks_superIn K (He.ga K "TooMany") (He.ga K "TooMany") "__init__") (some (some (.builtin "ValueError.__init__"))) && (Hd.fileB K (Hd.codeOf K (He.ma K (He.ga K "TooMany") "__init__")) (PySem.Challenge.rw_murmurline_k77_whole_family_of_errors).prog.main.file && (Hd.cellB K (Hd.cellOf K (He.ma K (He.ga K "TooMany") "__init__")) (He.ga K "TooMany") && (He.eqO (PySem.W.findIn K (.ref (He.ga K "TooMany")) "__init__") (some (some (.ref (He.ma K (He.ga K "TooMany") "__init__")))) && (decide (PySem.W.typeIn K (.ref (He.ma K (He.ga K "TooMany") "__init__")) = some (.type "function")) && (He.eqO (PySem.W.findIn K (.ref (He.ga K "TooMany")) "limit") (some none) && (He.eqO (PySem.W.findIn K (.ref (He.ga K "TooMany")) "__getattribute__") (some (some (.builtin "BaseException.__getattribute__"))) && (He.eqO (PySem.W.findIn K (.ref (He.ga K "TooMany")) "__getattr__") (some none))))))))))))))))))))
def hdB20 (K : PySem.W.Frag) : Bool := PySem.W.hasDictIn K (He.ga K "TooMany") && (He.eqO (PySem.W.findIn K (.ref (He.ga K "TooMany")) "__class__") (some (some (.builtin "object.__class__"))) && (decide (PySem.W.mroIn K (He.ga K "TooMany") (.type "object") = some true) && (decide (PySem.W.subIn K (.ref (He.ga K "TooMany")) (.ref (He.ga K "TooMany")) = some true) && (decide (PySem.W.subIn K (.ref (He.ga K "TooMany")) (.ref (He.ga K "BadSize")) = some false) && (decide (PySem.W.subIn K (.ref (He.ga K "TooMany")) (.ref (He.ga K "BadTable")) = some false) && (decide (PySem.W.subIn K (.ref (He.ga K "TooMany")) (.ref (He.ga K "UnknownWord")) = some false) && (decide (PySem.W.subIn K (.ref (He.ga K "TooMany")) (.ref (He.ga K "SizeMismatch")) = some false) && (decide (PySem.W.subIn K (.ref (He.ga K "TooMany")) (.ref (He.ga K "BadCount")) = some false) && (decide (PySem.W.subIn K (.ref (He.ga K "TooMany")) (.ref (He.ga K "BadPerson")) = some false) && (decide (PySem.W.subIn K (.ref (He.ga K "TooMany")) (.ref (He.ga K "BadLetter")) = some false) && (decide (PySem.W.subIn K (.ref (He.ga K "TooMany")) (.ref (He.ga K "UnknownPerson")) = some false) && (decide (PySem.W.subIn K (.ref (He.ga K "TooMany")) (.ref (He.ga K "BadPattern")) = some false) && (decide (PySem.W.subIn K (.ref (He.ga K "TooMany")) (.ref (He.ga K "SameWord")) = some false) && (decide (PySem.W.subIn K (.ref (He.ga K "TooMany")) (.ref (He.ga K "UnknownClue")) = some false) && (decide (PySem.W.subIn K (.ref (He.ga K "TooMany")) (.ref (He.ga K "BadPlace")) = some false) && (decide (PySem.W.subIn K (.ref (He.ga K "TooMany")) (.ref (He.ga K "TooLong")) = some false) && (decide (PySem.W.subIn K (.ref (He.ga K "TooMany")) (.ref (He.ga K "Melted")) = some false) && (decide (PySem.W.subIn K (.ref (He.ga K "TooMany")) (.ref (He.ga K "NothingToUndo")) = some false) && (decide (PySem.W.subIn K (.ref (He.ga K "TooMany")) (.ref (He.ga K "NothingToRedo")) = some false))))))))))))))))))))
def hdB21 (K : PySem.W.Frag) : Bool := decide (PySem.W.subIn K (.ref (He.ga K "TooMany")) (.ref (He.ga K "Refused")) = some false) && (decide (PySem.W.subIn K (.ref (He.ga K "TooMany")) (.ref (He.ga K "BadLine")) = some false) && (decide (PySem.W.subIn K (.ref (He.ga K "TooMany")) (.ref (He.ga K "MurmurError")) = some true) && (Hd.ecB K (He.ga K "BadPattern") && (He.eqO (PySem.W.findIn K (.ref (He.ga K "BadPattern")) "__setattr__") (some (some (.builtin "object.__setattr__"))) && (decide (PySem.W.subIn K (.ref (He.ga K "BadPattern")) (.type "BaseException") = some true) && (PySem.W.keepIn K (.ref (He.ga K "BadPattern")) && (decide (PySem.W.mroIn K (He.ga K "BadPattern") (.ref (He.ga K "BadPattern")) = some true) && (decide (PySem.W.subIn K (.ref (He.ga K "BadPattern")) (.type "ValueError") = some true) && (He.eqO (PySem.W.ks_superIn K (He.ga K "BadPattern") (He.ga K "BadPattern") "__init__") (some (some (.builtin "ValueError.__init__"))) && (Hd.fileB K (Hd.codeOf K (He.ma K (He.ga K "BadPattern") "__init__")) (PySem.Challenge.rw_murmurline_k77_whole_family_of_errors).prog.main.file && (Hd.cellB K (Hd.cellOf K (He.ma K (He.ga K "BadPattern") "__init__")) (He.ga K "BadPattern") && (He.eqO (PySem.W.findIn K (.ref (He.ga K "BadPattern")) "__init__") (some (some (.ref (He.ma K (He.ga K "BadPattern") "__init__")))) && (decide (PySem.W.typeIn K (.ref (He.ma K (He.ga K "BadPattern") "__init__")) = some (.type "function")) && (He.eqO (PySem.W.findIn K (.ref (He.ga K "BadPattern")) "place") (some none) && (He.eqO (PySem.W.findIn K (.ref (He.ga K "BadPattern")) "__getattribute__") (some (some (.builtin "BaseException.__getattribute__"))) && (He.eqO (PySem.W.findIn K (.ref (He.ga K "BadPattern")) "__getattr__") (some none) && (PySem.W.hasDictIn K (He.ga K "BadPattern") && (He.eqO (PySem.W.findIn K (.ref (He.ga K "BadPattern")) "__class__") (some (some (.builtin "object.__class__"))) && (decide (PySem.W.mroIn K (He.ga K "BadPattern") (.type "object") = some true))))))))))))))))))))
def hdB22 (K : PySem.W.Frag) : Bool := decide (PySem.W.subIn K (.ref (He.ga K "BadPattern")) (.ref (He.ga K "BadPattern")) = some true) && (decide (PySem.W.subIn K (.ref (He.ga K "BadPattern")) (.ref (He.ga K "BadSize")) = some false) && (decide (PySem.W.subIn K (.ref (He.ga K "BadPattern")) (.ref (He.ga K "BadTable")) = some false) && (decide (PySem.W.subIn K (.ref (He.ga K "BadPattern")) (.ref (He.ga K "UnknownWord")) = some false) && (decide (PySem.W.subIn K (.ref (He.ga K "BadPattern")) (.ref (He.ga K "SizeMismatch")) = some false) && (decide (PySem.W.subIn K (.ref (He.ga K "BadPattern")) (.ref (He.ga K "BadCount")) = some false) && (decide (PySem.W.subIn K (.ref (He.ga K "BadPattern")) (.ref (He.ga K "BadPerson")) = some false) && (decide (PySem.W.subIn K (.ref (He.ga K "BadPattern")) (.ref (He.ga K "BadLetter")) = some false) && (decide (PySem.W.subIn K (.ref (He.ga K "BadPattern")) (.ref (He.ga K "UnknownPerson")) = some false) && (decide (PySem.W.subIn K (.ref (He.ga K "BadPattern")) (.ref (He.ga K "TooMany")) = some false) && (decide (PySem.W.subIn K (.ref (He.ga K "BadPattern")) (.ref (He.ga K "SameWord")) = some false) && (decide (PySem.W.subIn K (.ref (He.ga K "BadPattern")) (.ref (He.ga K "UnknownClue")) = some false) && (decide (PySem.W.subIn K (.ref (He.ga K "BadPattern")) (.ref (He.ga K "BadPlace")) = some false) && (decide (PySem.W.subIn K (.ref (He.ga K "BadPattern")) (.ref (He.ga K "TooLong")) = some false) && (decide (PySem.W.subIn K (.ref (He.ga K "BadPattern")) (.ref (He.ga K "Melted")) = some false) && (decide (PySem.W.subIn K (.ref (He.ga K "BadPattern")) (.ref (He.ga K "NothingToUndo")) = some false) && (decide (PySem.W.subIn K (.ref (He.ga K "BadPattern")) (.ref (He.ga K "NothingToRedo")) = some false) && (decide (PySem.W.subIn K (.ref (He.ga K "BadPattern")) (.ref (He.ga K "Refused")) = some false) && (decide (PySem.W.subIn K (.ref (He.ga K "BadPattern")) (.ref (He.ga K "BadLine")) = some false) && (decide (PySem.W.subIn K (.ref (He.ga K "BadPattern")) (.ref (He.ga K "MurmurError")) = some true))))))))))))))))))))
def hdB23 (K : PySem.W.Frag) : Bool := Hd.ecB K (He.ga K "SameWord") && (He.eqO (PySem.W.findIn K (.ref (He.ga K "SameWord")) "__setattr__") (some (some (.builtin "object.__setattr__"))) && (decide (PySem.W.subIn K (.ref (He.ga K "SameWord")) (.type "BaseException") = some true) && (PySem.W.keepIn K (.ref (He.ga K "SameWord")) && (decide (PySem.W.mroIn K (He.ga K "SameWord") (.ref (He.ga K "SameWord")) = some true) && (decide (PySem.W.subIn K (.ref (He.ga K "SameWord")) (.type "ValueError") = some true) && (He.eqO (PySem.W.ks_superIn K (He.ga K "SameWord") (He.ga K "SameWord") "__init__") (some (some (.builtin "ValueError.__init__"))) && (Hd.fileB K (Hd.codeOf K (He.ma K (He.ga K "SameWord") "__init__")) (PySem.Challenge.rw_murmurline_k77_whole_family_of_errors).prog.main.file && (Hd.cellB K (Hd.cellOf K (He.ma K (He.ga K "SameWord") "__init__")) (He.ga K "SameWord") && (He.eqO (PySem.W.findIn K (.ref (He.ga K "SameWord")) "__init__") (some (some (.ref (He.ma K (He.ga K "SameWord") "__init__")))) && (decide (PySem.W.typeIn K (.ref (He.ma K (He.ga K "SameWord") "__init__")) = some (.type "function")) && (He.eqO (PySem.W.findIn K (.ref (He.ga K "SameWord")) "word") (some none) && (He.eqO (PySem.W.findIn K (.ref (He.ga K "SameWord")) "__getattribute__") (some (some (.builtin "BaseException.__getattribute__"))) && (He.eqO (PySem.W.findIn K (.ref (He.ga K "SameWord")) "__getattr__") (some none) && (PySem.W.hasDictIn K (He.ga K "SameWord") && (He.eqO (PySem.W.findIn K (.ref (He.ga K "SameWord")) "__class__") (some (some (.builtin "object.__class__"))) && (decide (PySem.W.mroIn K (He.ga K "SameWord") (.type "object") = some true) && (decide (PySem.W.subIn K (.ref (He.ga K "SameWord")) (.ref (He.ga K "SameWord")) = some true) && (decide (PySem.W.subIn K (.ref (He.ga K "SameWord")) (.ref (He.ga K "BadSize")) = some false) && (decide (PySem.W.subIn K (.ref (He.ga K "SameWord")) (.ref (He.ga K "BadTable")) = some false))))))))))))))))))))
def hdB24 (K : PySem.W.Frag) : Bool := decide (PySem.W.subIn K (.ref (He.ga K "SameWord")) (.ref (He.ga K "UnknownWord")) = some false) && (decide (PySem.W.subIn K (.ref (He.ga K "SameWord")) (.ref (He.ga K "SizeMismatch")) = some false) && (decide (PySem.W.subIn K (.ref (He.ga K "SameWord")) (.ref (He.ga K "BadCount")) = some false) && (decide (PySem.W.subIn K (.ref (He.ga K "SameWord")) (.ref (He.ga K "BadPerson")) = some false) && (decide (PySem.W.subIn K (.ref (He.ga K "SameWord")) (.ref (He.ga K "BadLetter")) = some false) && (decide (PySem.W.subIn K (.ref (He.ga K "SameWord")) (.ref (He.ga K "UnknownPerson")) = some false) && (decide (PySem.W.subIn K (.ref (He.ga K "SameWord")) (.ref (He.ga K "TooMany")) = some false) && (decide (PySem.W.subIn K (.ref (He.ga K "SameWord")) (.ref (He.ga K "BadPattern")) = some false) && (decide (PySem.W.subIn K (.ref (He.ga K "SameWord")) (.ref (He.ga K "UnknownClue")) = some false) && (decide (PySem.W.subIn K (.ref (He.ga K "SameWord")) (.ref (He.ga K "BadPlace")) = some false) && (decide (PySem.W.subIn K (.ref (He.ga K "SameWord")) (.ref (He.ga K "TooLong")) = some false) && (decide (PySem.W.subIn K (.ref (He.ga K "SameWord")) (.ref (He.ga K "Melted")) = some false) && (decide (PySem.W.subIn K (.ref (He.ga K "SameWord")) (.ref (He.ga K "NothingToUndo")) = some false) && (decide (PySem.W.subIn K (.ref (He.ga K "SameWord")) (.ref (He.ga K "NothingToRedo")) = some false) && (decide (PySem.W.subIn K (.ref (He.ga K "SameWord")) (.ref (He.ga K "Refused")) = some false) && (decide (PySem.W.subIn K (.ref (He.ga K "SameWord")) (.ref (He.ga K "BadLine")) = some false) && (decide (PySem.W.subIn K (.ref (He.ga K "SameWord")) (.ref (He.ga K "MurmurError")) = some true) && (Hd.ecB K (He.ga K "UnknownClue") && (He.eqO (PySem.W.findIn K (.ref (He.ga K "UnknownClue")) "__setattr__") (some (some (.builtin "object.__setattr__"))) && (decide (PySem.W.subIn K (.ref (He.ga K "UnknownClue")) (.type "BaseException") = some true))))))))))))))))))))
def hdB25 (K : PySem.W.Frag) : Bool := PySem.W.keepIn K (.ref (He.ga K "UnknownClue")) && (decide (PySem.W.mroIn K (He.ga K "UnknownClue") (.ref (He.ga K "UnknownClue")) = some true) && (decide (PySem.W.subIn K (.ref (He.ga K "UnknownClue")) (.type "ValueError") = some true) && (He.eqO (PySem.W.ks_superIn K (He.ga K "UnknownClue") (He.ga K "UnknownClue") "__init__") (some (some (.builtin "ValueError.__init__"))) && (Hd.fileB K (Hd.codeOf K (He.ma K (He.ga K "UnknownClue") "__init__")) (PySem.Challenge.rw_murmurline_k77_whole_family_of_errors).prog.main.file && (Hd.cellB K (Hd.cellOf K (He.ma K (He.ga K "UnknownClue") "__init__")) (He.ga K "UnknownClue") && (He.eqO (PySem.W.findIn K (.ref (He.ga K "UnknownClue")) "__init__") (some (some (.ref (He.ma K (He.ga K "UnknownClue") "__init__")))) && (decide (PySem.W.typeIn K (.ref (He.ma K (He.ga K "UnknownClue") "__init__")) = some (.type "function")) && (He.eqO (PySem.W.findIn K (.ref (He.ga K "UnknownClue")) "number") (some none) && (He.eqO (PySem.W.findIn K (.ref (He.ga K "UnknownClue")) "__getattribute__") (some (some (.builtin "BaseException.__getattribute__"))) && (He.eqO (PySem.W.findIn K (.ref (He.ga K "UnknownClue")) "__getattr__") (some none) && (PySem.W.hasDictIn K (He.ga K "UnknownClue") && (He.eqO (PySem.W.findIn K (.ref (He.ga K "UnknownClue")) "__class__") (some (some (.builtin "object.__class__"))) && (decide (PySem.W.mroIn K (He.ga K "UnknownClue") (.type "object") = some true) && (decide (PySem.W.subIn K (.ref (He.ga K "UnknownClue")) (.ref (He.ga K "UnknownClue")) = some true) && (decide (PySem.W.subIn K (.ref (He.ga K "UnknownClue")) (.ref (He.ga K "BadSize")) = some false) && (decide (PySem.W.subIn K (.ref (He.ga K "UnknownClue")) (.ref (He.ga K "BadTable")) = some false) && (decide (PySem.W.subIn K (.ref (He.ga K "UnknownClue")) (.ref (He.ga K "UnknownWord")) = some false) && (decide (PySem.W.subIn K (.ref (He.ga K "UnknownClue")) (.ref (He.ga K "SizeMismatch")) = some false) && (decide (PySem.W.subIn K (.ref (He.ga K "UnknownClue")) (.ref (He.ga K "BadCount")) = some false))))))))))))))))))))
def hdB26 (K : PySem.W.Frag) : Bool := decide (PySem.W.subIn K (.ref (He.ga K "UnknownClue")) (.ref (He.ga K "BadPerson")) = some false) && (decide (PySem.W.subIn K (.ref (He.ga K "UnknownClue")) (.ref (He.ga K "BadLetter")) = some false) && (decide (PySem.W.subIn K (.ref (He.ga K "UnknownClue")) (.ref (He.ga K "UnknownPerson")) = some false) && (decide (PySem.W.subIn K (.ref (He.ga K "UnknownClue")) (.ref (He.ga K "TooMany")) = some false) && (decide (PySem.W.subIn K (.ref (He.ga K "UnknownClue")) (.ref (He.ga K "BadPattern")) = some false) && (decide (PySem.W.subIn K (.ref (He.ga K "UnknownClue")) (.ref (He.ga K "SameWord")) = some false) && (decide (PySem.W.subIn K (.ref (He.ga K "UnknownClue")) (.ref (He.ga K "BadPlace")) = some false) && (decide (PySem.W.subIn K (.ref (He.ga K "UnknownClue")) (.ref (He.ga K "TooLong")) = some false) && (decide (PySem.W.subIn K (.ref (He.ga K "UnknownClue")) (.ref (He.ga K "Melted")) = some false) && (decide (PySem.W.subIn K (.ref (He.ga K "UnknownClue")) (.ref (He.ga K "NothingToUndo")) = some false) && (decide (PySem.W.subIn K (.ref (He.ga K "UnknownClue")) (.ref (He.ga K "NothingToRedo")) = some false) && (decide (PySem.W.subIn K (.ref (He.ga K "UnknownClue")) (.ref (He.ga K "Refused")) = some false) && (decide (PySem.W.subIn K (.ref (He.ga K "UnknownClue")) (.ref (He.ga K "BadLine")) = some false) && (decide (PySem.W.subIn K (.ref (He.ga K "UnknownClue")) (.ref (He.ga K "MurmurError")) = some true) && (Hd.ecB K (He.ga K "BadPlace") && (He.eqO (PySem.W.findIn K (.ref (He.ga K "BadPlace")) "__setattr__") (some (some (.builtin "object.__setattr__"))) && (decide (PySem.W.subIn K (.ref (He.ga K "BadPlace")) (.type "BaseException") = some true) && (PySem.W.keepIn K (.ref (He.ga K "BadPlace")) && (decide (PySem.W.mroIn K (He.ga K "BadPlace") (.ref (He.ga K "BadPlace")) = some true) && (decide (PySem.W.subIn K (.ref (He.ga K "BadPlace")) (.type "ValueError") = some true))))))))))))))))))))
def hdB27 (K : PySem.W.Frag) : Bool := He.eqO (PySem.W.ks_superIn K (He.ga K "BadPlace") (He.ga K "BadPlace") "__init__") (some (some (.builtin "ValueError.__init__"))) && (Hd.fileB K (Hd.codeOf K (He.ma K (He.ga K "BadPlace") "__init__")) (PySem.Challenge.rw_murmurline_k77_whole_family_of_errors).prog.main.file && (Hd.cellB K (Hd.cellOf K (He.ma K (He.ga K "BadPlace") "__init__")) (He.ga K "BadPlace") && (He.eqO (PySem.W.findIn K (.ref (He.ga K "BadPlace")) "__init__") (some (some (.ref (He.ma K (He.ga K "BadPlace") "__init__")))) && (decide (PySem.W.typeIn K (.ref (He.ma K (He.ga K "BadPlace") "__init__")) = some (.type "function")) && (He.eqO (PySem.W.findIn K (.ref (He.ga K "BadPlace")) "place") (some none) && (He.eqO (PySem.W.findIn K (.ref (He.ga K "BadPlace")) "__getattribute__") (some (some (.builtin "BaseException.__getattribute__"))) && (He.eqO (PySem.W.findIn K (.ref (He.ga K "BadPlace")) "__getattr__") (some none) && (PySem.W.hasDictIn K (He.ga K "BadPlace") && (He.eqO (PySem.W.findIn K (.ref (He.ga K "BadPlace")) "__class__") (some (some (.builtin "object.__class__"))) && (decide (PySem.W.mroIn K (He.ga K "BadPlace") (.type "object") = some true) && (decide (PySem.W.subIn K (.ref (He.ga K "BadPlace")) (.ref (He.ga K "BadPlace")) = some true) && (decide (PySem.W.subIn K (.ref (He.ga K "BadPlace")) (.ref (He.ga K "BadSize")) = some false) && (decide (PySem.W.subIn K (.ref (He.ga K "BadPlace")) (.ref (He.ga K "BadTable")) = some false) && (decide (PySem.W.subIn K (.ref (He.ga K "BadPlace")) (.ref (He.ga K "UnknownWord")) = some false) && (decide (PySem.W.subIn K (.ref (He.ga K "BadPlace")) (.ref (He.ga K "SizeMismatch")) = some false) && (decide (PySem.W.subIn K (.ref (He.ga K "BadPlace")) (.ref (He.ga K "BadCount")) = some false) && (decide (PySem.W.subIn K (.ref (He.ga K "BadPlace")) (.ref (He.ga K "BadPerson")) = some false) && (decide (PySem.W.subIn K (.ref (He.ga K "BadPlace")) (.ref (He.ga K "BadLetter")) = some false) && (decide (PySem.W.subIn K (.ref (He.ga K "BadPlace")) (.ref (He.ga K "UnknownPerson")) = some false))))))))))))))))))))
def hdB28 (K : PySem.W.Frag) : Bool := decide (PySem.W.subIn K (.ref (He.ga K "BadPlace")) (.ref (He.ga K "TooMany")) = some false) && (decide (PySem.W.subIn K (.ref (He.ga K "BadPlace")) (.ref (He.ga K "BadPattern")) = some false) && (decide (PySem.W.subIn K (.ref (He.ga K "BadPlace")) (.ref (He.ga K "SameWord")) = some false) && (decide (PySem.W.subIn K (.ref (He.ga K "BadPlace")) (.ref (He.ga K "UnknownClue")) = some false) && (decide (PySem.W.subIn K (.ref (He.ga K "BadPlace")) (.ref (He.ga K "TooLong")) = some false) && (decide (PySem.W.subIn K (.ref (He.ga K "BadPlace")) (.ref (He.ga K "Melted")) = some false) && (decide (PySem.W.subIn K (.ref (He.ga K "BadPlace")) (.ref (He.ga K "NothingToUndo")) = some false) && (decide (PySem.W.subIn K (.ref (He.ga K "BadPlace")) (.ref (He.ga K "NothingToRedo")) = some false) && (decide (PySem.W.subIn K (.ref (He.ga K "BadPlace")) (.ref (He.ga K "Refused")) = some false) && (decide (PySem.W.subIn K (.ref (He.ga K "BadPlace")) (.ref (He.ga K "BadLine")) = some false) && (decide (PySem.W.subIn K (.ref (He.ga K "BadPlace")) (.ref (He.ga K "MurmurError")) = some true) && (Hd.ecB K (He.ga K "TooLong") && (He.eqO (PySem.W.findIn K (.ref (He.ga K "TooLong")) "__setattr__") (some (some (.builtin "object.__setattr__"))) && (decide (PySem.W.subIn K (.ref (He.ga K "TooLong")) (.type "BaseException") = some true) && (PySem.W.keepIn K (.ref (He.ga K "TooLong")) && (decide (PySem.W.mroIn K (He.ga K "TooLong") (.ref (He.ga K "TooLong")) = some true) && (decide (PySem.W.subIn K (.ref (He.ga K "TooLong")) (.type "ValueError") = some true) && (He.eqO (PySem.W.ks_superIn K (He.ga K "TooLong") (He.ga K "TooLong") "__init__") (some (some (.builtin "ValueError.__init__"))) && (Hd.fileB K (Hd.codeOf K (He.ma K (He.ga K "TooLong") "__init__")) (PySem.Challenge.rw_murmurline_k77_whole_family_of_errors).prog.main.file && (Hd.cellB K (Hd.cellOf K (He.ma K (He.ga K "TooLong") "__init__")) (He.ga K "TooLong"))))))))))))))))))))
def hdB29 (K : PySem.W.Frag) : Bool := He.eqO (PySem.W.findIn K (.ref (He.ga K "TooLong")) "__init__") (some (some (.ref (He.ma K (He.ga K "TooLong") "__init__")))) && (decide (PySem.W.typeIn K (.ref (He.ma K (He.ga K "TooLong") "__init__")) = some (.type "function")) && (He.eqO (PySem.W.findIn K (.ref (He.ga K "TooLong")) "limit") (some none) && (He.eqO (PySem.W.findIn K (.ref (He.ga K "TooLong")) "__getattribute__") (some (some (.builtin "BaseException.__getattribute__"))) && (He.eqO (PySem.W.findIn K (.ref (He.ga K "TooLong")) "__getattr__") (some none) && (PySem.W.hasDictIn K (He.ga K "TooLong") && (He.eqO (PySem.W.findIn K (.ref (He.ga K "TooLong")) "__class__") (some (some (.builtin "object.__class__"))) && (decide (PySem.W.mroIn K (He.ga K "TooLong") (.type "object") = some true) && (decide (PySem.W.subIn K (.ref (He.ga K "TooLong")) (.ref (He.ga K "TooLong")) = some true) && (decide (PySem.W.subIn K (.ref (He.ga K "TooLong")) (.ref (He.ga K "BadSize")) = some false) && (decide (PySem.W.subIn K (.ref (He.ga K "TooLong")) (.ref (He.ga K "BadTable")) = some false) && (decide (PySem.W.subIn K (.ref (He.ga K "TooLong")) (.ref (He.ga K "UnknownWord")) = some false) && (decide (PySem.W.subIn K (.ref (He.ga K "TooLong")) (.ref (He.ga K "SizeMismatch")) = some false) && (decide (PySem.W.subIn K (.ref (He.ga K "TooLong")) (.ref (He.ga K "BadCount")) = some false) && (decide (PySem.W.subIn K (.ref (He.ga K "TooLong")) (.ref (He.ga K "BadPerson")) = some false) && (decide (PySem.W.subIn K (.ref (He.ga K "TooLong")) (.ref (He.ga K "BadLetter")) = some false) && (decide (PySem.W.subIn K (.ref (He.ga K "TooLong")) (.ref (He.ga K "UnknownPerson")) = some false) && (decide (PySem.W.subIn K (.ref (He.ga K "TooLong")) (.ref (He.ga K "TooMany")) = some false) && (decide (PySem.W.subIn K (.ref (He.ga K "TooLong")) (.ref (He.ga K "BadPattern")) = some false) && (decide (PySem.W.subIn K (.ref (He.ga K "TooLong")) (.ref (He.ga K "SameWord")) = some false))))))))))))))))))))
def hdB30 (K : PySem.W.Frag) : Bool := decide (PySem.W.subIn K (.ref (He.ga K "TooLong")) (.ref (He.ga K "UnknownClue")) = some false) && (decide (PySem.W.subIn K (.ref (He.ga K "TooLong")) (.ref (He.ga K "BadPlace")) = some false) && (decide (PySem.W.subIn K (.ref (He.ga K "TooLong")) (.ref (He.ga K "Melted")) = some false) && (decide (PySem.W.subIn K (.ref (He.ga K "TooLong")) (.ref (He.ga K "NothingToUndo")) = some false) && (decide (PySem.W.subIn K (.ref (He.ga K "TooLong")) (.ref (He.ga K "NothingToRedo")) = some false) && (decide (PySem.W.subIn K (.ref (He.ga K "TooLong")) (.ref (He.ga K "Refused")) = some false) && (decide (PySem.W.subIn K (.ref (He.ga K "TooLong")) (.ref (He.ga K "BadLine")) = some false) && (decide (PySem.W.subIn K (.ref (He.ga K "TooLong")) (.ref (He.ga K "MurmurError")) = some true) && (Hd.ecB K (He.ga K "Melted") && (He.eqO (PySem.W.findIn K (.ref (He.ga K "Melted")) "__setattr__") (some (some (.builtin "object.__setattr__"))) && (decide (PySem.W.subIn K (.ref (He.ga K "Melted")) (.type "BaseException") = some true) && (PySem.W.keepIn K (.ref (He.ga K "Melted")) && (decide (PySem.W.mroIn K (He.ga K "Melted") (.ref (He.ga K "Melted")) = some true) && (decide (PySem.W.subIn K (.ref (He.ga K "Melted")) (.type "ValueError") = some true) && (He.eqO (PySem.W.ks_superIn K (He.ga K "Melted") (He.ga K "Melted") "__init__") (some (some (.builtin "ValueError.__init__"))) && (Hd.fileB K (Hd.codeOf K (He.ma K (He.ga K "Melted") "__init__")) (PySem.Challenge.rw_murmurline_k77_whole_family_of_errors).prog.main.file && (Hd.cellB K (Hd.cellOf K (He.ma K (He.ga K "Melted") "__init__")) (He.ga K "Melted") && (He.eqO (PySem.W.findIn K (.ref (He.ga K "Melted")) "__init__") (some (some (.ref (He.ma K (He.ga K "Melted") "__init__")))) && (decide (PySem.W.typeIn K (.ref (He.ma K (He.ga K "Melted") "__init__")) = some (.type "function")) && (He.eqO (PySem.W.findIn K (.ref (He.ga K "Melted")) "first") (some none))))))))))))))))))))
def hdB31 (K : PySem.W.Frag) : Bool := He.eqO (PySem.W.findIn K (.ref (He.ga K "Melted")) "second") (some none) && (He.eqO (PySem.W.findIn K (.ref (He.ga K "Melted")) "__getattribute__") (some (some (.builtin "BaseException.__getattribute__"))) && (He.eqO (PySem.W.findIn K (.ref (He.ga K "Melted")) "__getattr__") (some none) && (PySem.W.hasDictIn K (He.ga K "Melted") && (He.eqO (PySem.W.findIn K (.ref (He.ga K "Melted")) "__class__") (some (some (.builtin "object.__class__"))) && (decide (PySem.W.mroIn K (He.ga K "Melted") (.type "object") = some true) && (decide (PySem.W.subIn K (.ref (He.ga K "Melted")) (.ref (He.ga K "Melted")) = some true) && (decide (PySem.W.subIn K (.ref (He.ga K "Melted")) (.ref (He.ga K "BadSize")) = some false) && (decide (PySem.W.subIn K (.ref (He.ga K "Melted")) (.ref (He.ga K "BadTable")) = some false) && (decide (PySem.W.subIn K (.ref (He.ga K "Melted")) (.ref (He.ga K "UnknownWord")) = some false) && (decide (PySem.W.subIn K (.ref (He.ga K "Melted")) (.ref (He.ga K "SizeMismatch")) = some false) && (decide (PySem.W.subIn K (.ref (He.ga K "Melted")) (.ref (He.ga K "BadCount")) = some false) && (decide (PySem.W.subIn K (.ref (He.ga K "Melted")) (.ref (He.ga K "BadPerson")) = some false) && (decide (PySem.W.subIn K (.ref (He.ga K "Melted")) (.ref (He.ga K "BadLetter")) = some false) && (decide (PySem.W.subIn K (.ref (He.ga K "Melted")) (.ref (He.ga K "UnknownPerson")) = some false) && (decide (PySem.W.subIn K (.ref (He.ga K "Melted")) (.ref (He.ga K "TooMany")) = some false) && (decide (PySem.W.subIn K (.ref (He.ga K "Melted")) (.ref (He.ga K "BadPattern")) = some false) && (decide (PySem.W.subIn K (.ref (He.ga K "Melted")) (.ref (He.ga K "SameWord")) = some false) && (decide (PySem.W.subIn K (.ref (He.ga K "Melted")) (.ref (He.ga K "UnknownClue")) = some false) && (decide (PySem.W.subIn K (.ref (He.ga K "Melted")) (.ref (He.ga K "BadPlace")) = some false))))))))))))))))))))
def hdB32 (K : PySem.W.Frag) : Bool := decide (PySem.W.subIn K (.ref (He.ga K "Melted")) (.ref (He.ga K "TooLong")) = some false) && (decide (PySem.W.subIn K (.ref (He.ga K "Melted")) (.ref (He.ga K "NothingToUndo")) = some false) && (decide (PySem.W.subIn K (.ref (He.ga K "Melted")) (.ref (He.ga K "NothingToRedo")) = some false) && (decide (PySem.W.subIn K (.ref (He.ga K "Melted")) (.ref (He.ga K "Refused")) = some false) && (decide (PySem.W.subIn K (.ref (He.ga K "Melted")) (.ref (He.ga K "BadLine")) = some false) && (decide (PySem.W.subIn K (.ref (He.ga K "Melted")) (.ref (He.ga K "MurmurError")) = some true) && (Hd.ecB K (He.ga K "NothingToUndo") && (He.eqO (PySem.W.findIn K (.ref (He.ga K "NothingToUndo")) "__setattr__") (some (some (.builtin "object.__setattr__"))) && (decide (PySem.W.subIn K (.ref (He.ga K "NothingToUndo")) (.type "BaseException") = some true) && (PySem.W.keepIn K (.ref (He.ga K "NothingToUndo")) && (decide (PySem.W.mroIn K (He.ga K "NothingToUndo") (.ref (He.ga K "NothingToUndo")) = some true) && (decide (PySem.W.subIn K (.ref (He.ga K "NothingToUndo")) (.type "ValueError") = some true) && (He.eqO (PySem.W.ks_superIn K (He.ga K "NothingToUndo") (He.ga K "NothingToUndo") "__init__") (some (some (.builtin "ValueError.__init__"))) && (Hd.fileB K (Hd.codeOf K (He.ma K (He.ga K "NothingToUndo") "__init__")) (PySem.Challenge.rw_murmurline_k77_whole_family_of_errors).prog.main.file && (Hd.cellB K (Hd.cellOf K (He.ma K (He.ga K "NothingToUndo") "__init__")) (He.ga K "NothingToUndo") && (He.eqO (PySem.W.findIn K (.ref (He.ga K "NothingToUndo")) "__init__") (some (some (.ref (He.ma K (He.ga K "NothingToUndo") "__init__")))) && (decide (PySem.W.typeIn K (.ref (He.ma K (He.ga K "NothingToUndo") "__init__")) = some (.type "function")) && (He.eqO (PySem.W.findIn K (.ref (He.ga K "NothingToUndo")) "__getattribute__") (some (some (.builtin "BaseException.__getattribute__"))) && (He.eqO (PySem.W.findIn K (.ref (He.ga K "NothingToUndo")) "__getattr__") (some none) && (PySem.W.hasDictIn K (He.ga K "NothingToUndo"))))))))))))))))))))
def hdB33 (K : PySem.W.Frag) : Bool := He.eqO (PySem.W.findIn K (.ref (He.ga K "NothingToUndo")) "__class__") (some (some (.builtin "object.__class__"))) && (decide (PySem.W.mroIn K (He.ga K "NothingToUndo") (.type "object") = some true) && (decide (PySem.W.subIn K (.ref (He.ga K "NothingToUndo")) (.ref (He.ga K "NothingToUndo")) = some true) && (decide (PySem.W.subIn K (.ref (He.ga K "NothingToUndo")) (.ref (He.ga K "BadSize")) = some false) && (decide (PySem.W.subIn K (.ref (He.ga K "NothingToUndo")) (.ref (He.ga K "BadTable")) = some false) && (decide (PySem.W.subIn K (.ref (He.ga K "NothingToUndo")) (.ref (He.ga K "UnknownWord")) = some false) && (decide (PySem.W.subIn K (.ref (He.ga K "NothingToUndo")) (.ref (He.ga K "SizeMismatch")) = some false) && (decide (PySem.W.subIn K (.ref (He.ga K "NothingToUndo")) (.ref (He.ga K "BadCount")) = some false) && (decide (PySem.W.subIn K (.ref (He.ga K "NothingToUndo")) (.ref (He.ga K "BadPerson")) = some false) && (decide (PySem.W.subIn K (.ref (He.ga K "NothingToUndo")) (.ref (He.ga K "BadLetter")) = some false) && (decide (PySem.W.subIn K (.ref (He.ga K "NothingToUndo")) (.ref (He.ga K "UnknownPerson")) = some false) && (decide (PySem.W.subIn K (.ref (He.ga K "NothingToUndo")) (.ref (He.ga K "TooMany")) = some false) && (decide (PySem.W.subIn K (.ref (He.ga K "NothingToUndo")) (.ref (He.ga K "BadPattern")) = some false) && (decide (PySem.W.subIn K (.ref (He.ga K "NothingToUndo")) (.ref (He.ga K "SameWord")) = some false) && (decide (PySem.W.subIn K (.ref (He.ga K "NothingToUndo")) (.ref (He.ga K "UnknownClue")) = some false) && (decide (PySem.W.subIn K (.ref (He.ga K "NothingToUndo")) (.ref (He.ga K "BadPlace")) = some false) && (decide (PySem.W.subIn K (.ref (He.ga K "NothingToUndo")) (.ref (He.ga K "TooLong")) = some false) && (decide (PySem.W.subIn K (.ref (He.ga K "NothingToUndo")) (.ref (He.ga K "Melted")) = some false) && (decide (PySem.W.subIn K (.ref (He.ga K "NothingToUndo")) (.ref (He.ga K "NothingToRedo")) = some false) && (decide (PySem.W.subIn K (.ref (He.ga K "NothingToUndo")) (.ref (He.ga K "Refused")) = some false))))))))))))))))))))
def hdB34 (K : PySem.W.Frag) : Bool := decide (PySem.W.subIn K (.ref (He.ga K "NothingToUndo")) (.ref (He.ga K "BadLine")) = some false) && (decide (PySem.W.subIn K (.ref (He.ga K "NothingToUndo")) (.ref (He.ga K "MurmurError")) = some true) && (Hd.ecB K (He.ga K "NothingToRedo") && (He.eqO (PySem.W.findIn K (.ref (He.ga K "NothingToRedo")) "__setattr__") (some (some (.builtin "object.__setattr__"))) && (decide (PySem.W.subIn K (.ref (He.ga K "NothingToRedo")) (.type "BaseException") = some true) && (PySem.W.keepIn K (.ref (He.ga K "NothingToRedo")) && (decide (PySem.W.mroIn K (He.ga K "NothingToRedo") (.ref (He.ga K "NothingToRedo")) = some true) && (decide (PySem.W.subIn K (.ref (He.ga K "NothingToRedo")) (.type "ValueError") = some true) && (He.eqO (PySem.W.ks_superIn K (He.ga K "NothingToRedo") (He.ga K "NothingToRedo") "__init__") (some (some (.builtin "ValueError.__init__"))) && (Hd.fileB K (Hd.codeOf K (He.ma K (He.ga K "NothingToRedo") "__init__")) (PySem.Challenge.rw_murmurline_k77_whole_family_of_errors).prog.main.file && (Hd.cellB K (Hd.cellOf K (He.ma K (He.ga K "NothingToRedo") "__init__")) (He.ga K "NothingToRedo") && (He.eqO (PySem.W.findIn K (.ref (He.ga K "NothingToRedo")) "__init__") (some (some (.ref (He.ma K (He.ga K "NothingToRedo") "__init__")))) && (decide (PySem.W.typeIn K (.ref (He.ma K (He.ga K "NothingToRedo") "__init__")) = some (.type "function")) && (He.eqO (PySem.W.findIn K (.ref (He.ga K "NothingToRedo")) "__getattribute__") (some (some (.builtin "BaseException.__getattribute__"))) && (He.eqO (PySem.W.findIn K (.ref (He.ga K "NothingToRedo")) "__getattr__") (some none) && (PySem.W.hasDictIn K (He.ga K "NothingToRedo") && (He.eqO (PySem.W.findIn K (.ref (He.ga K "NothingToRedo")) "__class__") (some (some (.builtin "object.__class__"))) && (decide (PySem.W.mroIn K (He.ga K "NothingToRedo") (.type "object") = some true) && (decide (PySem.W.subIn K (.ref (He.ga K "NothingToRedo")) (.ref (He.ga K "NothingToRedo")) = some true) && (decide (PySem.W.subIn K (.ref (He.ga K "NothingToRedo")) (.ref (He.ga K "BadSize")) = some false))))))))))))))))))))
def hdB35 (K : PySem.W.Frag) : Bool := decide (PySem.W.subIn K (.ref (He.ga K "NothingToRedo")) (.ref (He.ga K "BadTable")) = some false) && (decide (PySem.W.subIn K (.ref (He.ga K "NothingToRedo")) (.ref (He.ga K "UnknownWord")) = some false) && (decide (PySem.W.subIn K (.ref (He.ga K "NothingToRedo")) (.ref (He.ga K "SizeMismatch")) = some false) && (decide (PySem.W.subIn K (.ref (He.ga K "NothingToRedo")) (.ref (He.ga K "BadCount")) = some false) && (decide (PySem.W.subIn K (.ref (He.ga K "NothingToRedo")) (.ref (He.ga K "BadPerson")) = some false) && (decide (PySem.W.subIn K (.ref (He.ga K "NothingToRedo")) (.ref (He.ga K "BadLetter")) = some false) && (decide (PySem.W.subIn K (.ref (He.ga K "NothingToRedo")) (.ref (He.ga K "UnknownPerson")) = some false) && (decide (PySem.W.subIn K (.ref (He.ga K "NothingToRedo")) (.ref (He.ga K "TooMany")) = some false) && (decide (PySem.W.subIn K (.ref (He.ga K "NothingToRedo")) (.ref (He.ga K "BadPattern")) = some false) && (decide (PySem.W.subIn K (.ref (He.ga K "NothingToRedo")) (.ref (He.ga K "SameWord")) = some false) && (decide (PySem.W.subIn K (.ref (He.ga K "NothingToRedo")) (.ref (He.ga K "UnknownClue")) = some false) && (decide (PySem.W.subIn K (.ref (He.ga K "NothingToRedo")) (.ref (He.ga K "BadPlace")) = some false) && (decide (PySem.W.subIn K (.ref (He.ga K "NothingToRedo")) (.ref (He.ga K "TooLong")) = some false) && (decide (PySem.W.subIn K (.ref (He.ga K "NothingToRedo")) (.ref (He.ga K "Melted")) = some false) && (decide (PySem.W.subIn K (.ref (He.ga K "NothingToRedo")) (.ref (He.ga K "NothingToUndo")) = some false) && (decide (PySem.W.subIn K (.ref (He.ga K "NothingToRedo")) (.ref (He.ga K "Refused")) = some false) && (decide (PySem.W.subIn K (.ref (He.ga K "NothingToRedo")) (.ref (He.ga K "BadLine")) = some false) && (decide (PySem.W.subIn K (.ref (He.ga K "NothingToRedo")) (.ref (He.ga K "MurmurError")) = some true) && (Hd.ecB K (He.ga K "Refused") && (He.eqO (PySem.W.findIn K (.ref (He.ga K "Refused")) "__setattr__") (some (some (.builtin "object.__setattr__"))))))))))))))))))))))
def hdB36 (K : PySem.W.Frag) : Bool := decide (PySem.W.subIn K (.ref (He.ga K "Refused")) (.type "BaseException") = some true) && (PySem.W.keepIn K (.ref (He.ga K "Refused")) && (decide (PySem.W.mroIn K (He.ga K "Refused") (.ref (He.ga K "Refused")) = some true) && (decide (PySem.W.subIn K (.ref (He.ga K "Refused")) (.type "ValueError") = some true) && (He.eqO (PySem.W.ks_superIn K (He.ga K "Refused") (He.ga K "Refused") "__init__") (some (some (.builtin "ValueError.__init__"))) && (Hd.fileB K (Hd.codeOf K (He.ma K (He.ga K "Refused") "__init__")) (PySem.Challenge.rw_murmurline_k77_whole_family_of_errors).prog.main.file && (Hd.cellB K (Hd.cellOf K (He.ma K (He.ga K "Refused") "__init__")) (He.ga K "Refused") && (He.eqO (PySem.W.findIn K (.ref (He.ga K "Refused")) "__init__") (some (some (.ref (He.ma K (He.ga K "Refused") "__init__")))) && (decide (PySem.W.typeIn K (.ref (He.ma K (He.ga K "Refused") "__init__")) = some (.type "function")) && (He.eqO (PySem.W.findIn K (.ref (He.ga K "Refused")) "index") (some none) && (He.eqO (PySem.W.findIn K (.ref (He.ga K "Refused")) "__getattribute__") (some (some (.builtin "BaseException.__getattribute__"))) && (He.eqO (PySem.W.findIn K (.ref (He.ga K "Refused")) "__getattr__") (some none) && (PySem.W.hasDictIn K (He.ga K "Refused") && (He.eqO (PySem.W.findIn K (.ref (He.ga K "Refused")) "__class__") (some (some (.builtin "object.__class__"))) && (decide (PySem.W.mroIn K (He.ga K "Refused") (.type "object") = some true) && (decide (PySem.W.subIn K (.ref (He.ga K "Refused")) (.ref (He.ga K "Refused")) = some true) && (decide (PySem.W.subIn K (.ref (He.ga K "Refused")) (.ref (He.ga K "BadSize")) = some false) && (decide (PySem.W.subIn K (.ref (He.ga K "Refused")) (.ref (He.ga K "BadTable")) = some false) && (decide (PySem.W.subIn K (.ref (He.ga K "Refused")) (.ref (He.ga K "UnknownWord")) = some false) && (decide (PySem.W.subIn K (.ref (He.ga K "Refused")) (.ref (He.ga K "SizeMismatch")) = some false))))))))))))))))))))
def hdB37 (K : PySem.W.Frag) : Bool := decide (PySem.W.subIn K (.ref (He.ga K "Refused")) (.ref (He.ga K "BadCount")) = some false) && (decide (PySem.W.subIn K (.ref (He.ga K "Refused")) (.ref (He.ga K "BadPerson")) = some false) && (decide (PySem.W.subIn K (.ref (He.ga K "Refused")) (.ref (He.ga K "BadLetter")) = some false) && (decide (PySem.W.subIn K (.ref (He.ga K "Refused")) (.ref (He.ga K "UnknownPerson")) = some false) && (decide (PySem.W.subIn K (.ref (He.ga K "Refused")) (.ref (He.ga K "TooMany")) = some false) && (decide (PySem.W.subIn K (.ref (He.ga K "Refused")) (.ref (He.ga K "BadPattern")) = some false) && (decide (PySem.W.subIn K (.ref (He.ga K "Refused")) (.ref (He.ga K "SameWord")) = some false) && (decide (PySem.W.subIn K (.ref (He.ga K "Refused")) (.ref (He.ga K "UnknownClue")) = some false) && (decide (PySem.W.subIn K (.ref (He.ga K "Refused")) (.ref (He.ga K "BadPlace")) = some false) && (decide (PySem.W.subIn K (.ref (He.ga K "Refused")) (.ref (He.ga K "TooLong")) = some false) && (decide (PySem.W.subIn K (.ref (He.ga K "Refused")) (.ref (He.ga K "Melted")) = some false) && (decide (PySem.W.subIn K (.ref (He.ga K "Refused")) (.ref (He.ga K "NothingToUndo")) = some false) && (decide (PySem.W.subIn K (.ref (He.ga K "Refused")) (.ref (He.ga K "NothingToRedo")) = some false) && (decide (PySem.W.subIn K (.ref (He.ga K "Refused")) (.ref (He.ga K "BadLine")) = some false) && (decide (PySem.W.subIn K (.ref (He.ga K "Refused")) (.ref (He.ga K "MurmurError")) = some true) && (Hd.ecB K (He.ga K "BadLine") && (He.eqO (PySem.W.findIn K (.ref (He.ga K "BadLine")) "__setattr__") (some (some (.builtin "object.__setattr__"))) && (decide (PySem.W.subIn K (.ref (He.ga K "BadLine")) (.type "BaseException") = some true) && (PySem.W.keepIn K (.ref (He.ga K "BadLine")) && (decide (PySem.W.mroIn K (He.ga K "BadLine") (.ref (He.ga K "BadLine")) = some true))))))))))))))))))))
def hdB38 (K : PySem.W.Frag) : Bool := decide (PySem.W.subIn K (.ref (He.ga K "BadLine")) (.type "ValueError") = some true) && (He.eqO (PySem.W.ks_superIn K (He.ga K "BadLine") (He.ga K "BadLine") "__init__") (some (some (.builtin "ValueError.__init__"))) && (Hd.fileB K (Hd.codeOf K (He.ma K (He.ga K "BadLine") "__init__")) (PySem.Challenge.rw_murmurline_k77_whole_family_of_errors).prog.main.file && (Hd.cellB K (Hd.cellOf K (He.ma K (He.ga K "BadLine") "__init__")) (He.ga K "BadLine") && (He.eqO (PySem.W.findIn K (.ref (He.ga K "BadLine")) "__init__") (some (some (.ref (He.ma K (He.ga K "BadLine") "__init__")))) && (decide (PySem.W.typeIn K (.ref (He.ma K (He.ga K "BadLine") "__init__")) = some (.type "function")) && (He.eqO (PySem.W.findIn K (.ref (He.ga K "BadLine")) "line") (some none) && (He.eqO (PySem.W.findIn K (.ref (He.ga K "BadLine")) "__getattribute__") (some (some (.builtin "BaseException.__getattribute__"))) && (He.eqO (PySem.W.findIn K (.ref (He.ga K "BadLine")) "__getattr__") (some none) && (PySem.W.hasDictIn K (He.ga K "BadLine") && (He.eqO (PySem.W.findIn K (.ref (He.ga K "BadLine")) "__class__") (some (some (.builtin "object.__class__"))) && (decide (PySem.W.mroIn K (He.ga K "BadLine") (.type "object") = some true) && (decide (PySem.W.subIn K (.ref (He.ga K "BadLine")) (.ref (He.ga K "BadLine")) = some true) && (decide (PySem.W.subIn K (.ref (He.ga K "BadLine")) (.ref (He.ga K "BadSize")) = some false) && (decide (PySem.W.subIn K (.ref (He.ga K "BadLine")) (.ref (He.ga K "BadTable")) = some false) && (decide (PySem.W.subIn K (.ref (He.ga K "BadLine")) (.ref (He.ga K "UnknownWord")) = some false) && (decide (PySem.W.subIn K (.ref (He.ga K "BadLine")) (.ref (He.ga K "SizeMismatch")) = some false) && (decide (PySem.W.subIn K (.ref (He.ga K "BadLine")) (.ref (He.ga K "BadCount")) = some false) && (decide (PySem.W.subIn K (.ref (He.ga K "BadLine")) (.ref (He.ga K "BadPerson")) = some false) && (decide (PySem.W.subIn K (.ref (He.ga K "BadLine")) (.ref (He.ga K "BadLetter")) = some false))))))))))))))))))))
def hdB39 (K : PySem.W.Frag) : Bool := decide (PySem.W.subIn K (.ref (He.ga K "BadLine")) (.ref (He.ga K "UnknownPerson")) = some false) && (decide (PySem.W.subIn K (.ref (He.ga K "BadLine")) (.ref (He.ga K "TooMany")) = some false) && (decide (PySem.W.subIn K (.ref (He.ga K "BadLine")) (.ref (He.ga K "BadPattern")) = some false) && (decide (PySem.W.subIn K (.ref (He.ga K "BadLine")) (.ref (He.ga K "SameWord")) = some false) && (decide (PySem.W.subIn K (.ref (He.ga K "BadLine")) (.ref (He.ga K "UnknownClue")) = some false) && (decide (PySem.W.subIn K (.ref (He.ga K "BadLine")) (.ref (He.ga K "BadPlace")) = some false) && (decide (PySem.W.subIn K (.ref (He.ga K "BadLine")) (.ref (He.ga K "TooLong")) = some false) && (decide (PySem.W.subIn K (.ref (He.ga K "BadLine")) (.ref (He.ga K "Melted")) = some false) && (decide (PySem.W.subIn K (.ref (He.ga K "BadLine")) (.ref (He.ga K "NothingToUndo")) = some false) && (decide (PySem.W.subIn K (.ref (He.ga K "BadLine")) (.ref (He.ga K "NothingToRedo")) = some false) && (decide (PySem.W.subIn K (.ref (He.ga K "BadLine")) (.ref (He.ga K "Refused")) = some false) && (decide (PySem.W.subIn K (.ref (He.ga K "BadLine")) (.ref (He.ga K "MurmurError")) = some true) && (decide (PySem.W.subIn K (.ref (He.ga K "MurmurError")) (.type "BaseException") = some true) && (PySem.W.hasDictIn K (He.ga K "MurmurError") && (PySem.W.keepIn K (.ref (He.ga K "_law_single")) && (He.eqO (PySem.W.nsIn K mainGlobals "_law_single") (some (some (.ref (He.ga K "_law_single")))))))))))))))))))
def hdB (K : PySem.W.Frag) : Bool := hdB0 K && (hdB1 K && (hdB2 K && (hdB3 K && (hdB4 K && (hdB5 K && (hdB6 K && (hdB7 K && (hdB8 K && (hdB9 K && (hdB10 K && (hdB11 K && (hdB12 K && (hdB13 K && (hdB14 K && (hdB15 K && (hdB16 K && (hdB17 K && (hdB18 K && (hdB19 K && (hdB20 K && (hdB21 K && (hdB22 K && (hdB23 K && (hdB24 K && (hdB25 K && (hdB26 K && (hdB27 K && (hdB28 K && (hdB29 K && (hdB30 K && (hdB31 K && (hdB32 K && (hdB33 K && (hdB34 K && (hdB35 K && (hdB36 K && (hdB37 K && (hdB38 K && (hdB39 K)))))))))))))))))))))))))))))))))))))))
def hdF0 : Hd.FnX := ⟨fun K => (He.ga K "_law_box"), "_law_box", "_law_box", defArgs s__law_box, defBody s__law_box, defScope s__law_box, false, []⟩
def hdF1 : Hd.FnX := ⟨fun K => (He.ga K "_law_take"), "_law_take", "_law_take", defArgs s__law_take, defBody s__law_take, defScope s__law_take, false, []⟩
def hdF2 : Hd.FnX := ⟨fun K => (He.ga K "_law_letters"), "_law_letters", "_law_letters", defArgs s__law_letters, defBody s__law_letters, defScope s__law_letters, false, []⟩
def hdF3 : Hd.FnX := ⟨fun K => (He.ga K "_law_second"), "_law_second", "_law_second", defArgs s__law_second, defBody s__law_second, defScope s__law_second, false, []⟩
def hdF4 : Hd.FnX := ⟨fun K => (He.ga K "_law_late"), "_law_late", "_law_late", defArgs s__law_late, defBody s__law_late, defScope s__law_late, false, []⟩
def hdF5 : Hd.FnX := ⟨fun K => (He.ga K "_law_first"), "_law_first", "_law_first", defArgs s__law_first, defBody s__law_first, defScope s__law_first, false, []⟩
def hdF6 : Hd.FnX := ⟨fun K => (He.ga K "_law_early"), "_law_early", "_law_early", defArgs s__law_early, defBody s__law_early, defScope s__law_early, false, []⟩
def hdF7 : Hd.FnX := ⟨fun K => (He.ga K "_law_as_base"), "_law_as_base", "_law_as_base", defArgs s__law_as_base, defBody s__law_as_base, defScope s__law_as_base, false, []⟩
def hdF8 : Hd.FnX := ⟨fun K => (He.ga K "law"), "law", "law", defArgs s_law_k77, defBody s_law_k77, defScope s_law_k77, false, []⟩
def hdF9 : Hd.FnX := ⟨fun K => (He.ma K (He.ga K "BadSize") "__init__"), "__init__", "BadSize.__init__", defArgs sBadSizeI, defBody sBadSizeI, defScope sBadSizeI, true, []⟩
def hdF10 : Hd.FnX := ⟨fun K => (He.ma K (He.ga K "BadTable") "__init__"), "__init__", "BadTable.__init__", defArgs sBadTableI, defBody sBadTableI, defScope sBadTableI, true, []⟩
def hdF11 : Hd.FnX := ⟨fun K => (He.ma K (He.ga K "UnknownWord") "__init__"), "__init__", "UnknownWord.__init__", defArgs sUnknownWordI, defBody sUnknownWordI, defScope sUnknownWordI, true, []⟩
def hdF12 : Hd.FnX := ⟨fun K => (He.ma K (He.ga K "SizeMismatch") "__init__"), "__init__", "SizeMismatch.__init__", defArgs sSizeMismatchI, defBody sSizeMismatchI, defScope sSizeMismatchI, true, []⟩
def hdF13 : Hd.FnX := ⟨fun K => (He.ma K (He.ga K "BadCount") "__init__"), "__init__", "BadCount.__init__", defArgs sBadCountI, defBody sBadCountI, defScope sBadCountI, true, []⟩
def hdF14 : Hd.FnX := ⟨fun K => (He.ma K (He.ga K "BadPerson") "__init__"), "__init__", "BadPerson.__init__", defArgs sBadPersonI, defBody sBadPersonI, defScope sBadPersonI, true, []⟩
def hdF15 : Hd.FnX := ⟨fun K => (He.ma K (He.ga K "BadLetter") "__init__"), "__init__", "BadLetter.__init__", defArgs sBadLetterI, defBody sBadLetterI, defScope sBadLetterI, true, []⟩
def hdF16 : Hd.FnX := ⟨fun K => (He.ma K (He.ga K "UnknownPerson") "__init__"), "__init__", "UnknownPerson.__init__", defArgs sUnknownPersonI, defBody sUnknownPersonI, defScope sUnknownPersonI, true, []⟩
def hdF17 : Hd.FnX := ⟨fun K => (He.ma K (He.ga K "TooMany") "__init__"), "__init__", "TooMany.__init__", defArgs sTooManyI, defBody sTooManyI, defScope sTooManyI, true, []⟩
def hdF18 : Hd.FnX := ⟨fun K => (He.ma K (He.ga K "BadPattern") "__init__"), "__init__", "BadPattern.__init__", defArgs sBadPatternI, defBody sBadPatternI, defScope sBadPatternI, true, []⟩
def hdF19 : Hd.FnX := ⟨fun K => (He.ma K (He.ga K "SameWord") "__init__"), "__init__", "SameWord.__init__", defArgs sSameWordI, defBody sSameWordI, defScope sSameWordI, true, []⟩
def hdF20 : Hd.FnX := ⟨fun K => (He.ma K (He.ga K "UnknownClue") "__init__"), "__init__", "UnknownClue.__init__", defArgs sUnknownClueI, defBody sUnknownClueI, defScope sUnknownClueI, true, []⟩
def hdF21 : Hd.FnX := ⟨fun K => (He.ma K (He.ga K "BadPlace") "__init__"), "__init__", "BadPlace.__init__", defArgs sBadPlaceI, defBody sBadPlaceI, defScope sBadPlaceI, true, []⟩
def hdF22 : Hd.FnX := ⟨fun K => (He.ma K (He.ga K "TooLong") "__init__"), "__init__", "TooLong.__init__", defArgs sTooLongI, defBody sTooLongI, defScope sTooLongI, true, []⟩
def hdF23 : Hd.FnX := ⟨fun K => (He.ma K (He.ga K "Melted") "__init__"), "__init__", "Melted.__init__", defArgs sMeltedI, defBody sMeltedI, defScope sMeltedI, true, []⟩
def hdF24 : Hd.FnX := ⟨fun K => (He.ma K (He.ga K "NothingToUndo") "__init__"), "__init__", "NothingToUndo.__init__", defArgs sNothingToUndoI, defBody sNothingToUndoI, defScope sNothingToUndoI, true, []⟩
def hdF25 : Hd.FnX := ⟨fun K => (He.ma K (He.ga K "NothingToRedo") "__init__"), "__init__", "NothingToRedo.__init__", defArgs sNothingToRedoI, defBody sNothingToRedoI, defScope sNothingToRedoI, true, []⟩
def hdF26 : Hd.FnX := ⟨fun K => (He.ma K (He.ga K "Refused") "__init__"), "__init__", "Refused.__init__", defArgs sRefusedI, defBody sRefusedI, defScope sRefusedI, true, []⟩
def hdF27 : Hd.FnX := ⟨fun K => (He.ma K (He.ga K "BadLine") "__init__"), "__init__", "BadLine.__init__", defArgs sBadLineI, defBody sBadLineI, defScope sBadLineI, true, []⟩
def hdF28 : Hd.FnX := ⟨fun K => (He.ga K "_law_single"), "_law_single", "_law_single", defArgs s__law_single, defBody s__law_single, defScope s__law_single, false, []⟩
def hdF : List Hd.FnX := [hdF0, hdF1, hdF2, hdF3, hdF4, hdF5, hdF6, hdF7, hdF8, hdF9, hdF10, hdF11, hdF12, hdF13, hdF14, hdF15, hdF16, hdF17, hdF18, hdF19, hdF20, hdF21, hdF22, hdF23, hdF24, hdF25, hdF26, hdF27, hdF28]
abbrev hdR : PySem.W.OpenRow := PySem.W.OpenLaw.row PySem.Challenge.rw_murmurline_k77_whole_family_of_errors
def hdG0 : List PySem.Str := ["_law_box", "_law_take", "_law_letters", "_law_second", "_law_late", "_law_first", "_law_early", "_law_as_base", "law", "_law_single"]
def hdAs (g : Addr → Option Obj) : List Addr := Hd.reach g ["MurmurError", "BadSize", "BadTable", "UnknownWord", "SizeMismatch", "BadCount", "BadPerson", "BadLetter", "UnknownPerson", "TooMany", "BadPattern", "SameWord", "UnknownClue", "BadPlace", "TooLong", "Melted", "NothingToUndo", "NothingToRedo", "Refused", "BadLine"] (hdG0) [("BadSize", ["__init__"]), ("BadTable", ["__init__"]), ("UnknownWord", ["__init__"]), ("SizeMismatch", ["__init__"]), ("BadCount", ["__init__"]), ("BadPerson", ["__init__"]), ("BadLetter", ["__init__"]), ("UnknownPerson", ["__init__"]), ("TooMany", ["__init__"]), ("BadPattern", ["__init__"]), ("SameWord", ["__init__"]), ("UnknownClue", ["__init__"]), ("BadPlace", ["__init__"]), ("TooLong", ["__init__"]), ("Melted", ["__init__"]), ("NothingToUndo", ["__init__"]), ("NothingToRedo", ["__init__"]), ("Refused", ["__init__"]), ("BadLine", ["__init__"])]
abbrev hdH : PySem.W.Hook := Hd.hookB hdAs hdB hdF
def hdO (s : PySem.W.SharedT) : Hd.AlB := Hd.obsBG hdAs hdB hdF (HandSHeadRun.getT s)
theorem hdO_eq (s : PySem.W.SharedT) : hdO s = hdH.obs s.abs := Hd.obsBG_eq (HandSHeadRun.getT_eq s)
def hdN0 : List PySem.Str := ["MurmurError", "BadSize", "BadTable", "UnknownWord", "SizeMismatch", "BadCount", "BadPerson", "BadLetter", "UnknownPerson", "TooMany", "BadPattern", "SameWord", "UnknownClue", "BadPlace", "TooLong", "Melted", "NothingToUndo", "NothingToRedo", "Refused", "BadLine", "_law_single", "_law_box", "_law_take", "_law_letters", "_law_first", "_law_second", "_law_early", "_law_late", "_law_as_base"]
def hdN : List PySem.Str := hdN0
open HandSHeadRun PySem.W in
set_option maxHeartbeats 0 in
theorem hd_r1 (w : World) (os : OsState) : (HandSHeadRun.endF (HandSHeadRun.stepQ (HandSHeadRun.denQ HandSHeadRun.tabQ) (OpenLaw.row PySem.Challenge.rw_murmurline_k77_whole_family_of_errors).prog w) 12000 (OpenLaw.row PySem.Challenge.rw_murmurline_k77_whole_family_of_errors).prog w os).map (fun s => (looksF (OpenLaw.row PySem.Challenge.rw_murmurline_k77_whole_family_of_errors).prog (boot_heap w.params) s.abs, seenQ (view (OpenLaw.row PySem.Challenge.rw_murmurline_k77_whole_family_of_errors).prog [31]) hdN (importedModules (OpenLaw.row PySem.Challenge.rw_murmurline_k77_whole_family_of_errors).prog.main.body) (fun s => xlAt (view (OpenLaw.row PySem.Challenge.rw_murmurline_k77_whole_family_of_errors).prog [31]) [] s && recOk (OpenLaw.row PySem.Challenge.rw_murmurline_k77_whole_family_of_errors).toRowW.records s) s.abs)) = some (true, openGood (view (OpenLaw.row PySem.Challenge.rw_murmurline_k77_whole_family_of_errors).prog [31]) hdN) := by
  kernel_rfl
open HandSHeadRun PySem.W in
set_option maxHeartbeats 0 in
theorem hd_r2 (w : World) (os : OsState) : (HandSHeadRun.endF (HandSHeadRun.stepQ (HandSHeadRun.denQ HandSHeadRun.tabQ) (OpenLaw.row PySem.Challenge.rw_murmurline_k77_whole_family_of_errors).prog w) 12000 (OpenLaw.row PySem.Challenge.rw_murmurline_k77_whole_family_of_errors).prog w os).map (fun s => (hdO s).1) = some true := by
  kernel_rfl
open HandSHeadRun PySem.W in
set_option maxHeartbeats 0 in
theorem hd_r3 (w : World) (os : OsState) : (HandSHeadRun.endF (HandSHeadRun.stepQ (HandSHeadRun.denQ HandSHeadRun.tabQ) (OpenLaw.row PySem.Challenge.rw_murmurline_k77_whole_family_of_errors).prog w) 12000 (OpenLaw.row PySem.Challenge.rw_murmurline_k77_whole_family_of_errors).prog w os).map (fun s => (hdO s).2) = some (hdF.map Hd.FnX.val) := by
  kernel_rfl
theorem hd_run (w : World) : HandSHeadRun.RunEq hdR (PySem.W.view hdR.prog [31]) hdH hdO 12000 hdN w := by
  intro os
  exact Hd.map3 (hd_r1 w os) (hd_r2 w os) (hd_r3 w os)
end Dg
namespace Eb
open PySem PySem.Spec PyProof.Rows L2
/-! ### errors with one whole number -/
theorem str_le {n : Nat} (h : n ≤ 100000) : n ≤ sizeLine := Nat.le_trans h (by decide)
theorem int_le {i : Int} (h : i.natAbs.log2 < 1920) : (PySem.Str.ofString (toString i)).length ≤ 1921 := int_text_len_1921 h
/-- what an error's text can show -/
def Pr (v : V) : Prop := (∃ i : Int, v = .int i ∧ i.natAbs.log2 < 1920) ∨ ∃ y : Str, v = .str y ∧ y.length ≤ 1921
theorem Pr.int {i : Int} (h : i.natAbs < 2 ^ 1000) : Pr (.int i) := .inl ⟨i, rfl, by
  by_cases z : i.natAbs = 0
  · rw [z]; decide
  · exact Nat.lt_trans ((Nat.log2_lt z).mpr h) (by decide)⟩
/-- C's __init__: the error at a gets its own dict with the fields -/
def spEr (C : Addr) (flds : List Str) : Sp := fun vs H Q _ => ∃ (a : Addr) (xs : List V), vs = .ref a :: xs ∧ xs.length = flds.length ∧ (∀ v ∈ xs, Pr v) ∧ H a = some (exo a C none) ∧
  ∀ H2 dx, H dx = none → dx ≠ a → (∀ b, b ≠ a → b ≠ dx → H2 b = H b) → H2 a = some (exo a C (some dx)) → H2 dx = some (exd dx (flds.zip xs).reverse) → Q .non H2
/-- what the written part says of an error's class -/
structure Er (P : Program) (K : PySem.W.Frag) (mg : Str → Option Value) (x : Str) (flds : List Str) (C : Addr) : Prop where
  T : OexC K C
  gC : mg x = some (.ref C)
  init : ∃ fI fd, PySem.W.findIn K (.ref C) "__init__" = some (some (.ref fI)) ∧ PySem.W.typeIn K (.ref fI) = some (.type "function") ∧ Binds K fd ("self" :: flds) [] ∧ ∀ (w : World) (base : Heap), FnOk P w K mg base CX0 1 fI fd ("self" :: flds) (spEr C flds)
theorem made_eq {H H2 : Hp} {a d : Addr} {o : HO} (ha : H a = none) (h2 : ∀ b, b ≠ a → b ≠ d → H2 b = upd H a o b) (fs : List (Str × V)) : upd (del H2 a) d (.xd fs) = upd H d (.xd fs) := by
  funext b
  by_cases hb : b = d
  · rw [hb, upd_same, upd_same]
  · rw [upd_ne hb, upd_ne hb]
    by_cases hba : b = a
    · rw [hba, del_same, ha]
    · rw [del_ne hba, h2 b hba hb, upd_ne hba]
/-- C(..) is made -/
def tMkEr (C : Addr) (flds : List Str) (ta : TA) : L2.St → Hp → XK → Prop := fun σ H Q => ta σ H fun vs H1 => vs.length = flds.length ∧ (∀ v ∈ vs, Pr v) ∧ ∀ d, H1 d = none → Q (.ref C) (some d) (upd H1 d (.xd (flds.zip vs).reverse))
theorem pmk_er {X : Cx} {x : Str} {flds : List Str} {C : Addr} {e : Expr} {es : List Expr} {ta : TA} {p pos : Pos} (R : Er X.prog X.K X.mg x flds C) (hr : Room 2 X.A) (ha : PA X (e :: es) ta) (hfl : flds.length ≤ 1000) (hg : Gl X x)
    (hdb : (x == ("__debug__" : Str)) = false) (he : starEach (e :: es) X.env = (false, eval e X.env) :: starEach es X.env) (hpl : (backTo pos (starEach es X.env)).any (·.1) = false) :
    L2N.PMk X (.Call (.Name x p) (e :: es) [] pos) (tMkEr C flds ta) := by
  have ⟨fI, fd, iC, tI, hb, F⟩ := R.init
  have ⟨nm, q0, N, bs, bm, sn, sub, ab, col, dd, k0, k1, k2, k3, k5, hC, hbm⟩ := R.T.cls
  intro pins s σ H Q I h
  refine wpAny_Call_Name_kw (ld_glob I hg R.gC ?_ hdb)
  refine PySem.W.callWith_K (h₀ := X.base) I.ok.mod.kin R.T.kC (thn (ha.run pos pins s σ H _ I h) fun us s1 hh => ?_) he hpl
  have ⟨vs, H1, I1, r1, hl, hp, q⟩ := hh
  refine ⟨I1.kIn, ?_⟩
  change wpAny _ _ (call (.ref C) us) _ _ _
  obtain ⟨h1, g, dr, tk, os⟩ := s1
  -- the error's object e behind its args
  have big : h1.objs.size ≤ h1.objs.size + 1 := Nat.le_succ _
  generalize ee : h1.objs.size + 1 = e1 at big
  have none1 : H1 e1 = none := I1.hok.fresh big
  have keep : ∀ b o, h1.get? b = some o → ((h1.push (PySem.W.kdv_tup us)).push (PySem.HandSPX.excO C h1.objs.size)).get? b = some o := fun b o z => Heap.get?_push_of_some _ (Heap.get?_push_of_some _ z)
  have there : ((h1.push (PySem.W.kdv_tup us)).push (PySem.HandSPX.excO C h1.objs.size)).get? e1 = some (PySem.HandSPX.excO C h1.objs.size) := by rw [← ee]; heap_get
  have I2 : Inv X pins σ (upd H1 e1 (exo e1 C none)) ⟨(h1.push (PySem.W.kdv_tup us)).push (PySem.HandSPX.excO C h1.objs.size), g, dr, tk, os⟩ := I1.laid (t' := tk) keep big (exo_ok there)
  have few : us.length ≤ sizeLine := by
    have z := Paired.length r1
    rw [← z, sizeLine_eq]
    omega
  have want : spEr C flds (.ref e1 :: vs) (upd H1 e1 (exo e1 C none)) (fun v H2 => v = .non ∧ ∃ (d : Addr) (fs : List (Str × V)), H2 e1 = some (exo e1 C (some d)) ∧ H2 d = some (exd d fs) ∧ H1 d = none ∧ Q (.ref C) (some d) (upd (del H2 e1) d (.xd fs))) E0 :=
    ⟨e1, vs, rfl, hl, hp, upd_same, fun H2 dx hdx hne h2 ea ed => by
      rw [upd_ne hne] at hdx
      refine ⟨rfl, dx, _, ea, ed, hdx, ?_⟩
      rw [made_eq none1 h2]
      exact q dx hdx⟩
  have vals : Vals (V.ref e1 :: vs) (Value.ref e1 :: us) := .cons rfl r1
  have binds := hb ⟨(h1.push (PySem.W.kdv_tup us)).push (PySem.HandSPX.excO C h1.objs.size), g, dr, tk, os⟩ (Value.ref e1 :: us) I2.kIn (by rw [List.append_nil, ← vals.length, (F X.w X.base).len _ _ _ _ want])
  rw [List.append_nil] at binds
  have run := (F X.w X.base).run (X.A.under (.builtin "type.__call__" ⟨.ref C :: us, []⟩)) X.stack ⟨(h1.push (PySem.W.kdv_tup us)).push (PySem.HandSPX.excO C h1.objs.size), g, dr, tk, os⟩ _ ⟨Value.ref e1 :: us, []⟩ _ _ _ E0 (hr.make C us []) (I2.env0.make C us []) binds vals want
  refine wpAny_call (PySem.HandSPX.call_own PySem.F.excBase_ValueError (fun Y => PySem.HandSPX.refsVE_contains Y bm hbm) (I1.kIn _ _ hC) (PySem.W.looks_findIn I1.kIn iC) (fun self => PySem.W.bind_fn I1.kIn self tI) few ?_)
  rw [ee]
  refine codeAny_mono run fun r s' out => ?_
  match r, out with
  | .ok (.ret u), ⟨v, H2, o2, b2, u2, ok2, rv, ev, d, fs, ea, ed, n1, qq⟩ =>
    subst ev
    have ⟨t0, G, J, kG, ge, ho, na⟩ := mk_end0 (d2 := s'.drawn) (t2 := s'.toks) I1 big keep u2 ok2 o2 b2 ea ed n1
    exact ⟨rv, e1, _, _, _, _, .ref C, some d, rfl, J, kG, ge, ho, ⟨rfl, rfl, fun ws e => by cases e; rfl⟩, rfl, rfl, na, rfl, b2, raises_own R.T.exC R.T.tyC, qq⟩
def tRaiseEr (C : Addr) (flds : List Str) (W : WX) (ta : TA) : TS := fun _ σ H => tMkEr C flds ta σ H fun cls d H' => W cls d σ H'
theorem ps_raiseEr {X : Cx} {W : WX} {x : Str} {flds : List Str} {C : Addr} {e : Expr} {es : List Expr} {ta : TA} {p pos pos2 : Pos} (hc : X.calm = true) (R : Er X.prog X.K X.mg x flds C) (hr : Room 2 X.A) (tk : L2N.Takes X W) (ha : PA X (e :: es) ta) (hfl : flds.length ≤ 1000 := by decide) (hg : Gl X x := by rfl)
    (db : (x == ("__debug__" : Str)) = false := by decide) (he : starEach (e :: es) X.env = (false, eval e X.env) :: starEach es X.env := by rfl) (hpl : (backTo pos (starEach es X.env)).any (·.1) = false := by rfl) :
    PS X (.Raise (some (.Call (.Name x p) (e :: es) [] pos)) none pos2) (tRaiseEr C flds W ta) := L2N.ps_raise hc tk (pmk_er R hr ha hfl hg db he hpl)
/-! ### the texts -/
/-- what the written part says of an error's __init__ -/
structure ErT (P : Program) (K : PySem.W.Frag) (mg : Str → Option Value) (C : Addr) (qual : Str) (st : Stmt) (f : Addr) (fd : FuncData) : Prop where
  U : SupX.SupC P K mg C
  ex : ∃ (oc ccl cl : Value) (od cdd cld an : Option Addr) (osl ccs csl : Array (Option Value)) (cda cc : Addr) (kV doc pm ct : Value) (vs0 : Array Value) (file : Str) (tf : Tok),
    fd = PySem.W.ksFn "__init__" qual (defArgs st) (defBody st) (defScope st) .none kV doc pm an (.ref cda) ct cc ∧ K.lookup f = some ⟨oc, od, .func fd, osl⟩ ∧ PySem.W.codeIn K (.ref cda) qual = true ∧
      K.lookup cda = some ⟨ccl, cdd, .fields vs0, ccs⟩ ∧ vs0[2]? = some (.str file tf) ∧ ((P.main.file : Str) == file) = true ∧ K.lookup cc = some ⟨cl, cld, .cell (some (.ref C)), csl⟩
  iC : PySem.W.findIn K (.ref C) "__init__" = some (some (.ref f))
  tI : PySem.W.typeIn K (.ref f) = some (.type "function")
theorem cat_le {x y : Str} {m n k : Nat} (hx : x.length ≤ m) (hy : y.length ≤ n) (h : m + n ≤ k) : (x ++ y).length ≤ k := by
  rw [Str.length_append]
  omega
end Eb
/-! ## try with several clauses «except C as n», the caught error's context being None -/
namespace L2N
open PySem PySem.Spec PyProof.Rows L2
abbrev Clauses := List (Value × (Addr → Value → Option Addr → TS))
/-- behind a suite the name is gone -/
def endsGone (D : Ends) (i : Nat) : Ends := { nx := fun σ H => D.nx (σ.set i none) H, bk := fun σ H => D.bk (σ.set i none) H, ct := fun σ H => D.ct (σ.set i none) H, rt := D.rt }
/-- what is wished of an error that the clauses l look at -/
def wClauses (K : PySem.W.Frag) (i : Nat) (Wout : WX) (D : Ends) : Clauses → WX
  | [] => Wout
  | p :: r => fun cls d σ H => ∃ b, PySem.W.exmOne K cls p.1 = some b ∧ (if b = true then ∀ a, H a = none → p.2 a cls d (endsGone D i) (σ.set i (some (.ref a))) H else wClauses K i Wout D r cls d σ H)
/-- the clauses of the text, each with the reading of its suite -/
inductive Reads (X : Cx) (n : Str) : List ExceptHandler → Clauses → Prop where
  | nil : Reads X n [] []
  | cons {x : Str} {c : Value} {ts : Addr → Value → Option Addr → TS} {s0 : Stmt} {ss : List Stmt} {q q' : Pos} {hs : List ExceptHandler} {l : Clauses} (named : Names X x c)
      (suite : ∀ (a : Addr) (oe : Obj) (cls : Value) (d : Option Addr) (pn : List (Addr × Obj)), Zn cls d oe → (∃ vs, oe.data = .fields vs) → PSs (X.suite a ((a, oe) :: pn)) (s0 :: ss) (ts a cls d)) (more : Reads X n hs l) :
      Reads X n (.ExceptHandler (some (.Name x q)) (some n) (s0 :: ss) q' :: hs) ((c, ts) :: l)
/-- an error on the ground of X -/
structure Down (X : Cx) (pins : List (Addr × Obj)) (σ : L2.St) (H : Hp) (cls : Value) (d : Option Addr) (a : Addr) (B : Heap) (sI s : Shared) : Prop where
  inv : Inv X pins σ H sI
  back : ∀ b o, sI.heap.get? b = some o → b ∉ frs X.stack → B.get? b = some o
  up : sI.heap.UpToSlots s.heap
  fly : HandSPX.FlyingZ B (X.env :: X.outer) a (Zn cls d) s.heap
  new : H a = none
  os : s.os = sI.os
  bare : AllBare s.gens
section
variable {X : Cx} {pins : List (Addr × Obj)} {σ : L2.St} {H : Hp} {cls : Value} {d : Option Addr} {a : Addr} {B : Heap} {sI s : Shared}
theorem Down.now (z : Down X pins σ H cls d a B sI s) : Inv X pins σ H s := z.inv.landed z.back z.fly.1 z.up z.os z.bare
/-- its object stands outside of what is tracked, outside of the frames -/
theorem Down.kept (z : Down X pins σ H cls d a B sI s) (hf : X.env.frame = some X.env.locals) : ∃ (oe : Obj) (vs : Array Value), s.heap.get? a = some oe ∧ Zn cls d oe ∧ oe.data = .fields vs ∧ Inv (X.suite a ((a, oe) :: (X.pn ++ pins))) [] σ H s := by
  have ⟨oe, vs, h1, h2, h3⟩ := z.fly.there
  have out : a ∉ frs (X.env :: X.outer) := fun m => by
    have ⟨_, o, e, no⟩ := z.fly.2.2.1.mem m
    exact no vs ((Option.some.inj (h1.symm.trans e)) ▸ h3)
  have loc : X.env.locals ∈ frs (X.env :: X.outer) := List.mem_filterMap.mpr ⟨X.env, by simp, hf⟩
  have sub : ∀ b, b ∈ X.fs → b ∈ frs (X.env :: X.outer) := fun b m => by
    have ⟨e, m1, m2⟩ := List.mem_filterMap.mp m
    exact List.mem_filterMap.mpr ⟨e, by simp [m1], m2⟩
  exact ⟨oe, vs, h1, h2, h3, z.now.suite h1 h3 z.new (fun e => out (e ▸ loc)) (fun m => out (sub _ m))⟩
/-- no clause is left: on it goes -/
theorem Down.past {Wout : WX} {D : Ends} (z : Down X pins σ H cls d a B sI s) (hs : X.stack = X.env :: X.outer) (hf : X.env.frame = some X.env.locals) (tk : Takes X Wout) (w : Wout cls d σ H) :
    wpAny (model X.prog X.w) X.A (handleBy (.ref a) X.env []) (SP X pins D) X.xe s := by
  apply wpAny_handleBy_nil
  have ⟨_, _, _, oe, vs, T, _, _, h1, _, h3, h4, _⟩ := z.fly
  unfold PySem.passOn
  apply wpAny_bind
  refine wpAny_field h1 h3 h4 ?_
  have no : ¬ ((Value.ref T == Value.none) = true) := by simp
  rw [if_neg no]
  have goes : wpAny (model X.prog X.w) X.A (setFlight (.ref a) X.env.frame) (fun _ s4 => wpAny (model X.prog X.w) X.A (throw (.ref a) : Sem Flow) (SP X pins D) X.xe s4) X.xe s := by
    rw [hf]
    refine HandSPX.setFlight_upZ z.fly fun h4 held more => wpAny_throw (tk _ _ ?_)
    refine ⟨a, B, sI, pins, σ, H, cls, d, rfl, z.inv, z.back, z.up.trans more, .inr (.inr ?_), z.new, z.os, z.bare, w⟩
    rw [hs]
    exact held
  first
    | exact wpAny_bind goes
    | exact wpAny_bind (wpAny_pure (wpAny_bind goes))
/-- a clause's class is looked up -/
theorem named_at {x : Str} {c : Value} {q : Pos} {oe : Obj} {Q E : Value → Shared → Prop} (S : Inv (X.suite a ((a, oe) :: (X.pn ++ pins))) [] σ H s) (hn : Names X x c) (k : Q c s) : wpAny (model X.prog X.w) (X.A.mark (some (.ref a))) (eval (.Name x q) X.env) Q E s := by
  rcases hn with ⟨g, db, m | ⟨m, bt, nn⟩⟩
  · exact ld_glob (X := X.suite a ((a, oe) :: (X.pn ++ pins))) S g m k db
  · exact ld_blt (X := X.suite a ((a, oe) :: (X.pn ++ pins))) S g m bt k nn db
theorem Down.handle {n : Str} {i : Nat} {Wout : WX} {D : Ends} (hs : X.stack = X.env :: X.outer) (hf : X.env.frame = some X.env.locals) (hN : X.N.Nodup) (hi : X.N[i]? = some n) (hln : X.env.kindOf n = some .local) (tk : Takes X Wout) {hds : List ExceptHandler} {l : Clauses}
    (R : Reads X n hds l) : ∀ s, Down X pins σ H cls d a B sI s → wClauses X.K i Wout D l cls d σ H → wpAny (model X.prog X.w) X.A (handleBy (.ref a) X.env hds) (SP X pins D) X.xe s := by
  induction R with
  | nil => exact fun s z w => z.past hs hf tk w
  | @cons x c ts s0 ss q q' hs' l' named suite more ih =>
    intro s z ⟨b, yes, w⟩
    have ⟨oe, vs, h1, h2, h3, S⟩ := z.kept hf
    have ty : PySem.W.Looks (model X.prog X.w) s.heap (typeOf (.ref a)) cls := fun _ _ _ _ k q => wpAny_typeOf_ref (k _ _ h1) (h2.1 ▸ q)
    have lk := PySem.W.exm_one (M := model X.prog X.w) z.now.kIn ty yes
    refine wpAny_handleBy_cons (codeAny_handlers_test (named_at S named (lk.here ?_))) (fun e => by cases e)
    cases b with
    | false => exact ih s z w
    | true =>
      refine codeAny_handlers_suite_as (HandSPX.lands_againZ z.fly fun h4 fly up => ?_)
      have z4 : Down X pins σ H cls d a B sI { s with heap := h4 } := ⟨z.inv, z.back, z.up.trans up, fly, z.new, z.os, z.bare⟩
      have ⟨oe4, vs4, _, g2, g3, S4⟩ := z4.kept hf
      refine store_ok (X := X.suite a ((a, oe4) :: (X.pn ++ pins))) (v := .ref a) S4 hN hi (.inl hln) rfl (fun s5 S5 => ?_) (.inr hln)
      have run := (suite a oe4 cls d (X.pn ++ pins) g2 ⟨_, g3⟩).run [] s5 _ H _ S5 (w a z.new)
      refine wpAny_mono run (fun f s6 out => ?_) fun _ _ no => no.elim
      have gone : ∀ {σ6 : L2.St} {H6 : Hp} {Q : Shared → Prop}, Inv (X.suite a ((a, oe4) :: (X.pn ++ pins))) [] σ6 H6 s6 → (∀ s7, Inv X pins (σ6.set i none) H6 s7 → Q s7) → wpAny (model X.prog X.w) X.A (do bindName X.env n .none; unbindBehindTheSuite X.env n q') (fun _ s7 => Q s7) X.xe s6 :=
        fun S6 k => gone_ok (S6.unsuite z.inv.ok) hN hi hln k
      match f, out with
      | .next, ⟨_, _, S6, k⟩ => exact gone S6 fun s7 J => ⟨_, _, J, k⟩
      | .brk, ⟨_, _, S6, k⟩ => exact gone S6 fun s7 J => ⟨_, _, J, k⟩
      | .cont, ⟨_, _, S6, k⟩ => exact gone S6 fun s7 J => ⟨_, _, J, k⟩
      | .ret _, ⟨_, _, _, S6, r, k⟩ => exact gone S6 fun s7 J => ⟨_, _, _, J, r, k⟩
/-- the statement -/
theorem ps_try_clauses {n : Str} {i : Nat} {Wout : WX} {body : List Stmt} {h0 : ExceptHandler} {hds : List ExceptHandler} {l : Clauses} {pos : Pos} {tb : WX → TS} (hs : X.stack = X.env :: X.outer) (hf : X.env.frame = some X.env.locals) (hN : X.N.Nodup) (hi : X.N[i]? = some n) (hln : X.env.kindOf n = some .local)
    (tk : Takes X Wout) (hb : ∀ (W : WX) (pn : List (Addr × Obj)) (xe : Value → Shared → Prop), Takes (X.tr pn xe) W → PassesOwn (model X.prog X.w) X.A X.env xe → PSs (X.tr pn xe) body (tb W)) (R : Reads X n (h0 :: hds) l) :
    PS X (.Try body (h0 :: hds) [] [] pos) (fun D σ H => tb (wClauses X.K i Wout D l) D σ H) := by
  constructor
  intro pins s σ H D I h
  have fr : X.A.frames = some (X.env :: X.outer) := I.ok.frames.trans (by rw [hs])
  apply wpAny_Try_except
  have run := (hb (wClauses X.K i Wout D l) (X.pn ++ pins) (fun e s1 => wpAny (model X.prog X.w) X.A (noteFrame e X.env) (fun _ s2 => wpAny (model X.prog X.w) X.A (setFlight e none) (fun _ s3 => wpAny (model X.prog X.w) X.A (handleBy e X.env (h0 :: hds)) (SP X pins D) X.xe s3) X.xe s2) X.xe s1) (fun u s' c => by
    have ⟨a, B, sI, _, σ', H', cls, d, eu, J, nb, up, sky, na, os, ag, w⟩ := c
    subst eu
    rw [show (X.tr (X.pn ++ pins) _).stack = X.stack from rfl, hs] at sky
    refine Sky.land Zn.steady fr hf sky fun h3 fl more => ?_
    exact Down.handle hs hf hN hi hln tk R _ ⟨J.ofTry I.ok, nb, up.trans more, fl, na, os, ag⟩ w) PassesOwn.looking).run [] s σ H D (I.toTry _) h
  refine wpAny_mono run (fun f s1 out => ?_) fun _ _ z => z
  match f, out with
  | .next, ⟨_, _, J, k⟩ => exact wpAny_execs_nil ⟨_, _, J.ofTry I.ok, k⟩
  | .brk, ⟨_, _, J, k⟩ => exact ⟨_, _, J.ofTry I.ok, k⟩
  | .cont, ⟨_, _, J, k⟩ => exact ⟨_, _, J.ofTry I.ok, k⟩
  | .ret _, ⟨_, _, _, J, r, k⟩ => exact ⟨_, _, _, J.ofTry I.ok, r, k⟩
end
end L2N
/-! ## a list walked by a comprehension while an error is handled -/
namespace HotX2
open PySem PySem.Spec PyProof.Rows HotX
section
variable {prog : Program} {w : World} {A : Around} {E : Value → Shared → Prop} {s : Shared}
/-- the iterator at it is at its end: StopIteration is made (its context the handled error), and met -/
theorem list_ends {it l x1 : Addr} {i : Nat} {vals : Array Value} {Q : Option Value → Shared → Prop} (hot : HotAt A x1 s.heap) (ne : x1 ≠ it) (isIt : s.heap.IsListIter it l i) (isL : s.heap.IsList l vals) (past : vals[i]? = none)
    (k : ∀ h1, Heap.ExtBut it s.heap h1 → Q none { s with heap := h1 }) : wpAny (model prog w) A (pyNext (.ref it)) Q E s := by
  have ⟨hh, o1, ws, g1, e1, n1⟩ := hot
  have ty := isIt.typeIs
  have ⟨oi, gi, ci, di⟩ := isIt
  have ⟨ol, gl, _, nl, dl⟩ := isL
  have same1 : ∀ f, (s.heap.update it f).get? x1 = some o1 := fun f => (Heap.get?_update_ne _ _ _ _ ne).trans g1
  have sameB : ∀ f b o, b ≠ it → s.heap.get? b = some o → (s.heap.update it f).get? b = some o := fun f b o nb g => (Heap.get?_update_ne _ _ _ _ nb).trans g
  have noN : ¬ ((Value.ref l == Value.none) = true) := Bool.false_ne_true
  unfold pyNext
  apply wpAny_bind; apply wpAny_attempt
  refine wpAny_callSpecial?_slot (name := Str.ofString "__next__") ty slot_listiter_next (wpAny_call_entry slot_listiter_next ty entry_listiter_next ?_ (args_listiter_next _))
  change wpAny _ _ (field (.ref it) 0 >>= _) _ _ s
  refine wpAny_bind (wpAny_field (x := .ref l) gi di rfl ?_)
  change wpAny _ _ (ite ((Value.ref l == Value.none) = true) _ _) _ _ s
  rw [if_neg noN]
  change wpAny _ _ (field (.ref it) 1 >>= _) _ _ s
  refine wpAny_bind (wpAny_field (x := .int i 0) gi di rfl ?_)
  change wpAny _ _ (seqItems? (.ref l) >>= _) _ _ s
  refine wpAny_bind (wpAny_seqItems gl dl ?_)
  simp only [Int.toNat_natCast, past]
  refine wpAny_bind (wpAny_rule (wpAny_bind (wpAny_setField gi di (by simp) ?_)))
  change wpAny _ _ (newExc (.type "StopIteration") [] >>= _) _ _ _
  apply wpAny_bind
  simp only [newExc, newTuple]
  refine wpAny_bind (wpAny_newObj_type (wpAny_bind (m := firstArgMember _ _) (wpAny_of_eq (a := Value.none) (by first | rfl | (simp only [firstArgMember]; rfl)) (wpAny_newObj_type ?_ (by size_fits)))) (by size_fits))
  have up2 : ∀ {h1 : Heap} {b : Addr} {o x y : Obj}, h1.get? b = some o → ((h1.push x).push y).get? b = some o := fun e => Heap.get?_push_of_some _ (Heap.get?_push_of_some _ e)
  have lt2 : ∀ {h1 : Heap} {b : Addr} {o x : Obj}, h1.get? b = some o → b < (h1.push x).objs.size := fun e => Heap.lt_size (Heap.get?_push_of_some _ e)
  refine raiseNew_hot (x1 := x1) ⟨hh, o1, ws, up2 (same1 _), e1, n1⟩ (Nat.ne_of_lt (lt2 (same1 _))) (Heap.get?_push_size _ rfl) rfl (by first | (simp; done) | (simp; omega) | (simp only [Array.size_append]; simp; omega)) (wpAny_bind ?_)
  refine wpAny_isInstance (T := "StopIteration") (b := true) ⟨_, Heap.get?_update_self _ (Heap.get?_push_size _ rfl) rfl, rfl⟩ isSubtype_stop (wpAny_pure (k _ fun b o nb g => ?_))
  exact (Heap.get?_update_other _ _ (Nat.ne_of_gt (lt2 (sameB _ b o nb g)))).trans (up2 (sameB _ b o nb g))
end
end HotX2

namespace L2
open PySem PySem.Spec PyProof.Rows
section
variable {X : Cx} {pins : List (Addr × Obj)} {σ : St} {H : Hp} {s : Shared}
theorem fpOk_turned (I : Inv X pins σ H s) {it : Addr} (f : FpOk X pins H it) {h1 : Heap} (k : ∀ b o, b ≠ it → s.heap.get? b = some o → h1.get? b = some o) : Inv X pins σ H { s with heap := h1 } :=
  I.turned (t' := s.toks) (fun b o nb g => k b o nb g) f.1 f.2.1 f.2.2.2.1 f.2.2.2.2.1 f.2.2.2.2.2
theorem pe_lcH {elt tg iter : Expr} {ifs : List Expr} {scope : Scope} {own : List (Str × Nat)} {pos : Pos} {tl : TE} {g : TG} {tt : TT} {te : TE} (hot : L2H.HotC X) (hN : X.N.Nodup) (il : PE X iter tl) (ok : BlkOk X.N X.env.scope scope own)
    (hg : ∀ s H C cl fp, PG (X.blk s H scope (compEnvC scope cl C X.env) fp) tg g) (ht : ∀ s H C cl fp, PTs (X.blk s H scope (compEnvC scope cl C X.env) fp) ifs tt)
    (he : ∀ s H C cl fp, PE (X.blk s H scope (compEnvC scope cl C X.env) fp) elt te) (hs : ∀ x, foldedSetIterable iter X.env x = pure x := by intro _; rfl) :
    PE X (.ListComp elt [⟨tg, iter, ifs, 0⟩] scope pos) (tLc (iList X.K tl) g tt te (own.map (·.2))) := by
  constructor
  intro pins s σ H Q I h
  have ⟨p, ⟨hh, ws, pd, pc⟩, pm⟩ := hot
  have free : ∀ y ∈ scope.names, y.2 = .free → ∃ c, X.env.cells.lookup y.1 = some c := fun y m e => (ok.free y m e).elim (fun k => I.ok.has _ (.inl k)) fun k => I.ok.has _ (.inr k)
  rw [eval_ListComp]
  refine wpAny_comprehension_free rfl hs (closure_ok free) ok.kind (fun y m e => (ok.uniq y m).trans (e ▸ rfl)) (thn (il.run pins s σ H _ I h) fun xv s1 hx => ?_)
  have ⟨x, H1, I1, r1, a, ex, ⟨xs, hq⟩, q⟩ := hx
  subst ex
  cases r1
  have ⟨its, _, pl, _⟩ := I1.list hq
  refine wpAny_pyIter_list pl.isList (wpAny_newObj_type (newEnv_comp ?_) (show 0 ≤ sizeLine from Nat.zero_le _))
  -- the iterator, the new list
  have I2 := I1.kept (h' := s1.heap.push { cls := .type "list_iterator", data := .fields #[.ref a, .int 0 0] }) (t' := s1.toks) fun b o e => Heap.get?_push_of_some _ e
  have it0 : (s1.heap.push { cls := .type "list_iterator", data := .fields #[.ref a, .int 0 0] }).IsListIter s1.heap.objs.size a 0 := ⟨_, Heap.get?_push_size _ rfl, rfl, rfl⟩
  have new1 : H1 s1.heap.objs.size = none := I1.hok.fresh (Nat.le_refl _)
  generalize hk2 : s1.heap.push { cls := .type "list_iterator", data := .fields #[.ref a, .int 0 0] } = k2 at I2 it0 ⊢
  have lt2 : s1.heap.objs.size < k2.objs.size := by rw [← hk2, Heap.size_push]; exact Nat.lt_succ_self _
  have fp2 : FpOk X pins H1 s1.heap.objs.size := I1.fpOk (Nat.le_refl _) new1
  have I3 : Inv X pins σ (upd H1 k2.objs.size (.lst [])) { s1 with heap := k2.push { cls := .type "list", data := .seq ([] : List Value).toArray } } :=
    I2.laid (t' := s1.toks) (fun b o e => Heap.get?_push_of_some _ e) (Nat.le_refl _) ⟨Nat.zero_le _, [], 0, .nil, Heap.get?_push_size _ rfl⟩
  have ⟨W, ⟨m0, w0⟩, turn⟩ := q k2.objs.size (I2.hok.fresh (Nat.le_refl _))
  have fp3 : FpOk X pins (upd H1 k2.objs.size (.lst [])) s1.heap.objs.size := ⟨(upd_ne (Nat.ne_of_lt lt2)).trans fp2.1, fp2.2⟩
  have it3 : (k2.push { cls := .type "list", data := .seq ([] : List Value).toArray }).IsListIter s1.heap.objs.size a 0 := it0.at fun o e => Heap.get?_push_of_some _ e
  generalize hH3 : upd H1 k2.objs.size (.lst []) = H3 at I3 w0 fp3
  generalize hs3 : ({ s1 with heap := k2.push { cls := .type "list", data := .seq ([] : List Value).toArray } } : Shared) = s3 at I3
  generalize hit : s1.heap.objs.size = it at *
  generalize hD : k2.objs.size = D at *
  have e3 : s3.heap = k2.push { cls := .type "list", data := .seq ([] : List Value).toArray } := by rw [← hs3]
  have it3' : s3.heap.IsListIter it a 0 := by rw [e3]; exact it3
  have lt3 : it < s3.heap.objs.size := by rw [e3, Heap.size_push, hD]; exact Nat.lt_succ_of_lt lt2
  have I4 := block_start I3 ok hN (fp := [it]) fun b m => by
    rw [List.mem_singleton] at m
    subst m
    exact ⟨fp3, lt3⟩
  have P3 := I3.pin p (List.mem_append_left _ pm)
  have offst : p.1 ∉ frs X.stack := fun m => (List.mem_cons.mp (I3.stkSub p.1 m)).elim P3.2.2.1 P3.2.2.2.1
  have nep : p.1 ≠ it := fp3.2.2.2.2.2 p (List.mem_append_left _ pm)
  have pg := hg s3 H3 s3.heap.objs.size (cellsFrom (s3.heap.objs.size + 1) scope.names (cloFrom X.env.cells scope.names [])) [it]
  have pt := ht s3 H3 s3.heap.objs.size (cellsFrom (s3.heap.objs.size + 1) scope.names (cloFrom X.env.cells scope.names [])) [it]
  have pe := he s3 H3 s3.heap.objs.size (cellsFrom (s3.heap.objs.size + 1) scope.names (cloFrom X.env.cells scope.names [])) [it]
  change codeAny _ _ (.compStart (.ListComp elt [⟨tg, iter, ifs, 0⟩] scope pos) 0 (.ref it) (.ref D) (compEnvC scope (cellsFrom (s3.heap.objs.size + 1) scope.names (cloFrom X.env.cells scope.names [])) s3.heap.objs.size X.env)) (compPost (model X.prog X.w) X.A X.xe none _ (.ref D) s3.heap.objs.size) { s3 with heap := pushCells (s3.heap.push { cls := .type "dict", data := .dict #[] }) scope.names }
  generalize hce : compEnvC scope (cellsFrom (s3.heap.objs.size + 1) scope.names (cloFrom X.env.cells scope.names [])) s3.heap.objs.size X.env = ce at I4 pg pt pe ⊢
  have cL : ce.locals = s3.heap.objs.size := by rw [← hce]; rfl
  have it4 : (pushCells (s3.heap.push { cls := .type "dict", data := .dict #[] }) scope.names).IsListIter it a 0 := it3'.at fun o e => pushCells_keeps _ _ _ _ (Heap.get?_push_of_some _ e)
  have fpB : ∀ {σ' : L2.St} {H' : Hp} {s' : Shared}, Inv (X.blk s3 H3 scope ce [it]) [] σ' H' s' → H' it = none → FpOk (X.blk s3 H3 scope ce [it]) [] H' it := fun J n =>
    ⟨n, (J.ok.exf it (by simp)).1, J.ok.exfs it (by simp), .inl (by simp), fun x c e => (J.ok.exf it (by simp)).2 x c e, fun r m => absurd m (by simp)⟩
  have loop : codeAny (model X.prog X.w) X.A (.compLoop (.ListComp elt [⟨tg, iter, ifs, 0⟩] scope pos) 0 (.ref it) (.ref D) ce) (compPost (model X.prog X.w) X.A X.xe none (EP X pins σ Q) (.ref D) s3.heap.objs.size) { s3 with heap := pushCells (s3.heap.push { cls := .type "dict", data := .dict #[] }) scope.names } := ?_
  · exact codeAny_compStart_list loop (wpAny_pyIter_listiter it4 loop)
  refine compLoop_any (fun n s' => ∃ i H', Inv (X.blk s3 H3 scope ce [it]) [] (wipe σ (own.map (·.2))) H' s' ∧ s'.heap.IsListIter it a i ∧ H' it = none ∧ W i n H') ?_ m0 ⟨0, H3, I4, it4, fp3.1, w0⟩
  rintro n s5 ⟨i, H5, I5, st5, n5, w5⟩
  rcases turn i n H5 w5 with ⟨⟨xs5, hq5, past⟩, qq⟩ | ⟨⟨xs5, y, hq5, hy⟩, Nx, hNx, step⟩
  · have hp5 : s5.heap.get? p.1 = some p.2 := I5.base.keep p.1 p.2 P3.1 P3.2.1 offst (by simp [nep])
    have ⟨its5, rv5, pl5, _⟩ := I5.list hq5
    refine HotX2.list_ends ⟨hh, p.2, ws, hp5, pd, pc⟩ nep st5 pl5.isList (by have := rv5.length; simp; omega) fun h6 ext => ?_
    have I6 := fpOk_turned I5 (fpB I5 n5) ext
    have I7 : Inv X pins σ H5 { s5 with heap := h6 } := I3.call' (ch := [it]) I6.os I6.base I6.hok I6.bare fun b m => by
      rw [List.mem_singleton] at m
      subst m
      exact ⟨fp3.2.2.2.1, fp3.2.1, fp3.2.2.2.2.1, fp3.2.2.2.2.2⟩
    have nC : H5 s3.heap.objs.size = none := cL ▸ I6.free
    have ⟨m, hn, _⟩ := I6.loc
    have f := I3.fpOk (Nat.le_refl _) nC
    exact ⟨m, cL ▸ hn, fun h8 sb => ⟨.ref D, H5, fpOk_turned I7 f fun b o nb e => (sb.2 b nb).trans e, rfl, qq⟩⟩
  · have ⟨its5, rv5, pl5, _⟩ := I5.list hq5
    have ⟨u, hu, ru⟩ := rv5.get hy
    refine wpAny_pyNext_list_item st5 pl5.isList (x := u) (by simpa using hu) fun h6 st6 sb => ?_
    have I6 := fpOk_turned I5 (fpB I5 n5) fun b o nb e => (sb.2 b nb).trans e
    have ⟨oi, gi, ci, di⟩ := id st6
    refine go_of (s := { s5 with heap := h6 }) gi ci di (by decide) ?_
    have I7 : Inv (X.blk s3 H3 scope ce [it]) [(it, oi)] (wipe σ (own.map (·.2))) H5 { s5 with heap := h6 } := I6.pins_of fun r m => by
      rw [List.mem_singleton] at m
      subst m
      exact ⟨gi, n5, (I6.ok.exf it (by simp)).1, I6.ok.exfs it (by simp), fun v z => by rw [di] at z; cases z⟩
    refine thnF (pg.run _ _ _ H5 y u _ I7 ru (step y H5 ⟨rfl, fun ys hys => (I5.list_inj hys hq5) ▸ hy⟩)) fun _ s8 ⟨σ8, H8, I8, hw8, q8⟩ => ?_
    refine thnF (pt.run _ s8 σ8 H8 _ I8 q8) fun b s9 ⟨H9, I9, q9⟩ => ?_
    have done : ∀ {s' : Shared} {H' : Hp}, Inv (X.blk s3 H3 scope ce [it]) [(it, oi)] σ8 H' s' → Nx H' → ∃ m, m < n ∧ ∃ i H', Inv (X.blk s3 H3 scope ce [it]) [] (wipe σ (own.map (·.2))) H' s' ∧ s'.heap.IsListIter it a i ∧ H' it = none ∧ W i m H' := fun {s' H'} J nx => by
      have ⟨m', lt, w'⟩ := hNx H' nx
      have z := J.pin (it, oi) (by simp)
      refine ⟨m', lt, i + 1, H', (J.pins_of (pins' := []) fun r m => absurd m (by simp)).weak (by rw [← hw8, wipe_length]) (fun j v e => ?_), st6.at (fun o e => ?_), z.2.1, w'⟩
      · rw [← hw8] at e
        exact (wipe_some e).1
      · have e' : h6.get? it = some o := e
        rw [gi] at e'
        exact e' ▸ z.1
    cases b with
    | false => exact done I9 q9
    | true => exact thnF (pe.run _ s9 σ8 H9 _ I9 q9) fun z s10 ⟨yv, H10, I10, r10, acc, hD10, hz10, nx⟩ => app_ok (X := X.blk s3 H3 scope ce [it]) I10 hD10 hz10 r10 fun s11 I11 => done I11 nx
end
end L2
namespace L2
open PySem PySem.Spec PyProof.Rows
/-! ## a def that is asked about the error p, which is being handled -/
structure FnE (P : Program) (w : World) (K : PySem.W.Frag) (mg : Str → Option Value) (base : Heap) (k : Nat) (f : Addr) (fd : FuncData) (ps : List Str) (sp : Addr × Obj → Sp) : Prop where
  len : ∀ p vs H Q E, sp p vs H Q E → vs.length = ps.length
  run : ∀ (p : Addr × Obj) (A : Around) (outer : List Env) (z : Shared) (H : Hp) (args : Args) (us : List Value) (vs : List V) (Q : VK), L2H.RoomH k A → L2H.Hot1 A p → L2H.PinOk outer H z p → Env0 P w K mg base A outer z H → BindsTo z fd args (ps.zip us) → Vals vs us → sp p vs H Q E0 →
    codeAny (model P w) A (.call (.ref f) args) (CR CX0 outer P w H z Q E0) z
theorem fn_ofE {P : Program} {w : World} {K : PySem.W.Frag} {mg : Str → Option Value} {base : Heap} {k : Nat} {f : Addr} {nm qual : Str} {pars : Arguments} {body : List Stmt} {sc : Scope} {dV kV doc pm cdv ct oc : Value} {an od : Option Addr}
    {osl : Array (Option Value)} {N ps : List Str} {sp : Addr × Obj → Sp} (lk : K.lookup f = some ⟨oc, od, .func (PySem.W.fnOf nm qual pars body sc dV kV doc pm an cdv ct), osl⟩) (hcd : PySem.W.codeIn K cdv qual = true) (Sc : FnScope N ps sc)
    (len : ∀ p vs H Q E, sp p vs H Q E → vs.length = ps.length)
    (hbody : ∀ (p : Addr × Obj) (A : Around) (outer : List Env) (z : Shared) (H : Hp) (vs : List V) (Q : VK), L2H.Hot1 A p → L2H.RoomH k (A.deeper (envOfC qual sc z.heap.objs.size f cdv)) → sp p vs H Q E0 →
      ∃ t, PSs (L2H.cxH CX0 P w K mg base N qual sc f cdv A outer z H E0 p) body t ∧ t { nx := fun _ H' => Q .non H', rt := Q } (L2.start N vs) H) :
    FnE P w K mg base (k + 1) f (PySem.W.fnOf nm qual pars body sc dV kV doc pm an cdv ct) ps sp := by
  refine ⟨len, fun p A outer z H args us vs Q room hot pin e0 hb r want => ?_⟩
  have n := len _ _ _ _ _ want
  have up : ∀ b o, base.get? b = some o → z.heap.get? b = some o := fun b o e => (e0.bs b o e).1
  have KZ : K.In z.heap := e0.mod.kin.keeps up
  refine codeAny_call_function room.depth (KZ _ _ lk) rfl Sc.co Sc.gen rfl (PySem.W.codeRec_of KZ hcd) (hb _ _ _ _ ?_)
  refine wpAny_newFunctionEnv_cells Sc.kind (fun q m => ?_) fun env he z1 x => ?_
  · rcases Sc.par q.1 (List.of_mem_zip m).1 with c | c
    · exact .inl c
    · exact .inr ⟨c, PySem.W.cellsFrom_some _ _ _ (.inl c)⟩
  subst he
  refine ⟨(e0.mod.nolimit.keeps up).keeps x.toInCall.keep, codeAny_func ?_⟩
  have ⟨t, ht, hq⟩ := hbody p A outer z H vs Q hot (room.deeper _) want
  have I := L2H.inv_startH (CX := CX0) (P := P) (w := w) (qual := qual) (f := f) (cd := cdv) (E := E0) Sc pin e0 n r x
  refine wpAny_mono (ht.run [] z1 (L2.start N vs) H _ I hq) (fun fl z2 out => ?_) fun _ _ no => no
  match fl, out with
  | .ret _, ⟨v, _, H1, J, rv, q⟩ => exact ⟨v, H1, J.os, J.bare, J.base, J.hok, rv, q⟩
  | .next, ⟨_, H1, J, q⟩ => exact ⟨V.non, H1, J.os, J.bare, J.base, J.hok, rfl, q⟩
  | .brk, ⟨_, _, _, q⟩ => exact q.elim
  | .cont, ⟨_, _, _, q⟩ => exact q.elim
def tCallE (p : Addr × Obj) (sp : Addr × Obj → Sp) (t : TA) : TE := fun σ H Q => t σ H fun vs H1 => sp p vs H1 Q E0
section
variable {X : Cx} {k : Nat} {f : Addr} {fd : FuncData} {ps : List Str} {sp : Addr × Obj → Sp} {x : Str} {q pos : Pos} {e : Expr} {es : List Expr} {t : TA} {p : Addr × Obj}
theorem pe_callE (F : FnE X.prog X.w X.K X.mg X.base k f fd ps sp) (room : L2H.RoomH k X.A) (hot : L2H.Hot1 X.A p) (hp : p ∈ X.pn) (hg : Gl X x) (hm : X.mg x = some (.ref f)) (hk : PySem.W.keepIn X.K (.ref f) = true) (hb : Binds X.K fd ps [])
    (ha : PA X (e :: es) t) (db : (x == ("__debug__" : Str)) = false := by decide) (he : starEach (e :: es) X.env = (false, eval e X.env) :: starEach es X.env := by rfl) (hpl : (backTo pos (starEach es X.env)).any (·.1) = false := by rfl) :
    PE X (.Call (.Name x q) (e :: es) [] pos) (tCallE p sp t) := by
  constructor
  intro pins z σ H Q I h
  refine wpAny_Call_Name_kw (ld_glob I hg hm ?_ db)
  refine PySem.W.callWith_K (h₀ := X.base) I.ok.mod.kin hk (thn (ha.run pos pins z σ H _ I h) fun us z1 out => ?_) he hpl
  have ⟨vs, H1, I1, r, want⟩ := out
  refine ⟨I1.kIn, ?_⟩
  have b := hb z1 us I1.kIn (by rw [List.append_nil, ← r.length]; exact F.len _ _ _ _ _ want)
  rw [List.append_nil] at b
  have g := I1.pin p (List.mem_append_left _ hp)
  have pin : L2H.PinOk X.stack H1 z1 p := ⟨g.1, g.2.1, fun m => (List.mem_cons.mp (I1.stkSub p.1 m)).elim g.2.2.1 g.2.2.2.1, g.2.2.2.2⟩
  refine wpAny_call (codeAny_mono (F.run p X.A X.stack z1 H1 ⟨us, []⟩ us vs Q room hot pin I1.env0 b r want) fun r z2 out => ?_)
  match r, out with
  | .ok (.ret _), c => exact I1.after c
/-- the dict of an error, if it has one -/
def DkAt (H : Hp) (d : Option Addr) : Prop := ∀ dd, d = some dd → ∃ fs : List (Str × V), H dd = some (.xd fs)
theorem DkAt.same {H H' : Hp} {d : Option Addr} (h : DkAt H d) (s : Same H H') : DkAt H' d := fun dd e => let ⟨fs, z⟩ := h dd e; ⟨fs, s _ _ z⟩
/-- isinstance(e, c), e the error p -/
def rIsEx (K : PySem.W.Frag) (p : Addr × Obj) : List V → Hp → VK → Prop := fun xs H Q => ∃ (D : Addr) (c : V) (cv : Value) (b : Bool) (d : Option Addr), xs = [.ref p.1, c] ∧ (∀ u, RelV c u → u = cv) ∧ ExcC K D ∧ Zc (.ref D) d p.2 ∧ (∃ vs, p.2.data = .fields vs) ∧ DkAt H d ∧
  PySem.W.kitOne K (.ref D) cv = some b ∧ Q (.bl b) H
theorem call_isEx (hp : p ∈ X.pn) : CallR X (.builtin "isinstance") (rIsEx X.K p) := by
  intro pins z σ H xs us Q I r h
  have ⟨D, c, cv, b, d, ex, hcv, C, hz, ⟨vs, hv⟩, hdd, e, q⟩ := h
  subst ex
  match us, r with
  | [_, _], .cons rx (.cons rt .nil) =>
    cases rx
    cases hcv _ rt
    have here := (I.pin p (List.mem_append_left _ hp)).1
    have ⟨oo, J⟩ : ∃ oo, PySem.W.InstAt z.heap p.1 p.2 D oo := by
      cases d with
      | none => exact ⟨none, here, hz.1, by unfold PySem.W.notCls; rw [hv] <;> rfl, by rw [hz.2]; trivial⟩
      | some dd =>
        have ⟨fs, hdd⟩ := hdd dd rfl
        have ⟨mA, hns, _⟩ : ObjOk X.prog X.w H z.heap dd (.xd fs) := I.hok dd _ hdd
        have ⟨od, ho, _⟩ := lookIn_ns hns
        exact ⟨some od, here, hz.1, by unfold PySem.W.notCls; rw [hv] <;> rfl, by rw [hz.2]; exact ho⟩
    have ⟨cdD, hcD, _⟩ := PySem.W.any_some C.hd
    refine PySem.W.kia_one (PySem.W.kitx_exc (gt := none) (by rw [hcD]; rfl) C.hg C.hk C.hs C.ha C.hn C.ht C.hm) I.kIn J e (fun z => nomatch z) fun tk => ?_
    exact ⟨.bl b, H, I.kept (t' := tk) fun _ _ z => z, rfl, q⟩
end
/-! ## defs that may raise -/
section
variable {P : Program} {w : World} {K : PySem.W.Frag} {mg : Str → Option Value} {base : Heap} {k : Nat} {f : Addr} {fd : FuncData} {ps : List Str} {sp sp' : Sp} {CX : CXT}
/-- where nothing is let out, any way of letting out will do -/
theorem FnOk.free (F : FnOk P w K mg base CX0 k f fd ps sp) : FnOk P w K mg base CX k f fd ps sp := by
  refine ⟨F.len, fun A outer s H args us vs Q E hr e0 hb hv h => codeAny_mono (F.run A outer s H args us vs Q E hr e0 hb hv h) fun r s' out => ?_⟩
  match r, out with
  | .ok (.ret _), c => exact c
theorem FnOk.or (F : FnOk P w K mg base CX k f fd ps sp) (G : FnOk P w K mg base CX k f fd ps sp') : FnOk P w K mg base CX k f fd ps (fun vs H Q E => sp vs H Q E ∨ sp' vs H Q E) :=
  ⟨fun vs H Q E h => h.elim (F.len vs H Q E) (G.len vs H Q E), fun A outer s H args us vs Q E hr e0 hb hv h => h.elim (F.run A outer s H args us vs Q E hr e0 hb hv) (G.run A outer s H args us vs Q E hr e0 hb hv)⟩
/-- the rule of a def that may raise -/
theorem Fun.okN {x qual : Str} {st : Stmt} {N : List Str} (F : Fun K x qual st f fd) (S : FnScope N ps (defScope st)) (len : ∀ vs H Q E, sp vs H Q E → vs.length = ps.length)
    (body : ∀ (cdv : Value) (A : Around) (outer : List Env) (s : Shared) (H : Hp) (vs : List V) (Q : VK) (E : XK), Room k (A.deeper (envOfC qual (defScope st) s.heap.objs.size f cdv)) → sp vs H Q E →
      ∃ t, PSs (cxOf (L2N.CX P w) P w K mg base N qual (defScope st) f cdv A outer s H E) (defBody st) t ∧ t { nx := fun _ H' => Q .non H', rt := Q } (L2.start N vs) H) : FnOk P w K mg base (L2N.CX P w) (k + 1) f fd ps sp := by
  have ⟨oc, od, kV, doc, pm, an, cdv, ct, osl, e, lk, hcd⟩ := F.ex
  subst e
  exact fn_of lk hcd S len fun A outer s H vs Q E hr h => body cdv A outer s H vs Q E hr h
end
section
variable {X : Cx} {W : WX}
theorem takesF : L2N.Takes X (fun _ _ _ _ => False) := fun _ _ x => by
  have ⟨_, _, _, _, _, _, _, _, _, _, _, _, _, _, _, _, z⟩ := x
  exact z.elim
/-- in a try's body: what the clauses wish for, at any slots -/
def eAll (n : Nat) (W : WX) : XK := fun cls d H => ∀ σ : L2.St, σ.length = n → W cls d σ H
theorem passTry (n : Nat) (tk : L2N.Takes X W) (hn : X.N.length = n := by rfl) : Passes (L2N.CX X.prog X.w) X (eAll n W) := fun _ σ _ _ e s' I c => tk e s' (L2N.XE.of_call I (fun _ _ _ h => h σ (I.len.trans hn)) c)
end
end L2
namespace Eb
open PySem PySem.Spec PyProof.Rows L2
/-! ## the program's errors, and the def that asks which one an error is -/
/-- where the classes stand -/
structure Errs where
  M : Addr
  c0 : Addr
  c1 : Addr
  c2 : Addr
  c3 : Addr
  c4 : Addr
  c5 : Addr
  c6 : Addr
  c7 : Addr
  c8 : Addr
  c9 : Addr
  c10 : Addr
  c11 : Addr
  c12 : Addr
  c13 : Addr
  c14 : Addr
  c15 : Addr
  c16 : Addr
  c17 : Addr
  c18 : Addr
structure ErrG (mg : Str → Option Value) (r : Errs) : Prop where
  m : mg "MurmurError" = some (.ref r.M)
  e0 : mg "BadSize" = some (.ref r.c0)
  e1 : mg "BadTable" = some (.ref r.c1)
  e2 : mg "UnknownWord" = some (.ref r.c2)
  e3 : mg "SizeMismatch" = some (.ref r.c3)
  e4 : mg "BadCount" = some (.ref r.c4)
  e5 : mg "BadPerson" = some (.ref r.c5)
  e6 : mg "BadLetter" = some (.ref r.c6)
  e7 : mg "UnknownPerson" = some (.ref r.c7)
  e8 : mg "TooMany" = some (.ref r.c8)
  e9 : mg "BadPattern" = some (.ref r.c9)
  e10 : mg "SameWord" = some (.ref r.c10)
  e11 : mg "UnknownClue" = some (.ref r.c11)
  e12 : mg "BadPlace" = some (.ref r.c12)
  e13 : mg "TooLong" = some (.ref r.c13)
  e14 : mg "Melted" = some (.ref r.c14)
  e15 : mg "NothingToUndo" = some (.ref r.c15)
  e16 : mg "NothingToRedo" = some (.ref r.c16)
  e17 : mg "Refused" = some (.ref r.c17)
  e18 : mg "BadLine" = some (.ref r.c18)
  v : mg "ValueError" = none
  i : mg "isinstance" = none
  l : mg "len" = none
/-- the errors of the class D are of one class of the program alone -/
structure KitsG (K : PySem.W.Frag) (r : Errs) (D : Addr) : Prop where
  x : ExcC K D
  m : PySem.W.kitOne K (.ref D) (.ref r.M) = some true
  v : PySem.W.kitOne K (.ref D) (.type "ValueError") = some true
  k : ∃ b0 b1 b2 b3 b4 b5 b6 b7 b8 b9 b10 b11 b12 b13 b14 b15 b16 b17 b18 : Bool, PySem.W.kitOne K (.ref D) (.ref r.c0) = some b0 ∧ PySem.W.kitOne K (.ref D) (.ref r.c1) = some b1 ∧ PySem.W.kitOne K (.ref D) (.ref r.c2) = some b2 ∧ PySem.W.kitOne K (.ref D) (.ref r.c3) = some b3 ∧ PySem.W.kitOne K (.ref D) (.ref r.c4) = some b4 ∧ PySem.W.kitOne K (.ref D) (.ref r.c5) = some b5 ∧ PySem.W.kitOne K (.ref D) (.ref r.c6) = some b6 ∧ PySem.W.kitOne K (.ref D) (.ref r.c7) = some b7 ∧ PySem.W.kitOne K (.ref D) (.ref r.c8) = some b8 ∧ PySem.W.kitOne K (.ref D) (.ref r.c9) = some b9 ∧ PySem.W.kitOne K (.ref D) (.ref r.c10) = some b10 ∧ PySem.W.kitOne K (.ref D) (.ref r.c11) = some b11 ∧ PySem.W.kitOne K (.ref D) (.ref r.c12) = some b12 ∧ PySem.W.kitOne K (.ref D) (.ref r.c13) = some b13 ∧ PySem.W.kitOne K (.ref D) (.ref r.c14) = some b14 ∧ PySem.W.kitOne K (.ref D) (.ref r.c15) = some b15 ∧ PySem.W.kitOne K (.ref D) (.ref r.c16) = some b16 ∧ PySem.W.kitOne K (.ref D) (.ref r.c17) = some b17 ∧ PySem.W.kitOne K (.ref D) (.ref r.c18) = some b18 ∧ ([b0, b1, b2, b3, b4, b5, b6, b7, b8, b9, b10, b11, b12, b13, b14, b15, b16, b17, b18].filter id).length = 1
def spSingle (K : PySem.W.Frag) (r : Errs) : Addr × Obj → Sp := fun p vs H Q _ => ∃ (D : Addr) (d : Option Addr), vs = [.ref p.1] ∧ KitsG K r D ∧ Zc (.ref D) d p.2 ∧ (∃ vs, p.2.data = .fields vs) ∧ DkAt H d ∧ ∀ H', Same H H' → Q (.bl true) H'
theorem take_more {α : Type} : ∀ {l : List α} {i : Nat} {x : α}, l[i]? = some x → l.take (i + 1) = l.take i ++ [x]
  | [], i, x, h => by simp at h
  | a :: l, 0, x, h => by
    have e : a = x := Option.some.inj h
    subst e
    rfl
  | a :: l, i + 1, x, h => by
    have ih := take_more (l := l) (i := i) (x := x) h
    show a :: l.take (i + 1) = a :: l.take i ++ [x]
    rw [ih]
    rfl
theorem bl_at {bs : List Bool} {i : Nat} {y : V} (h : (bs.map V.bl)[i]? = some y) : ∃ b, bs[i]? = some b ∧ y = .bl b := by
  rw [List.getElem?_map] at h
  cases e : bs[i]? with
  | none => rw [e] at h; cases h
  | some b => rw [e] at h; exact ⟨b, rfl, (Option.some.inj h).symm⟩
theorem ones_more {bs : List Bool} {i : Nat} {b : Bool} (h : bs[i]? = some b) : List.replicate ((bs.take (i + 1)).filter id).length (V.int 1) = List.replicate ((bs.take i).filter id).length (V.int 1) ++ (if b = true then [V.int 1] else []) := by
  rw [take_more h, List.filter_append]
  cases b with
  | false => simp
  | true => simp [List.replicate_succ']
end Eb
namespace Eb
open PySem PySem.Spec PyProof.Rows L2
/-- what the written part says of an error's class, for an except clause and for its attributes -/
structure ErX (P : Program) (K : PySem.W.Frag) (mg : Str → Option Value) (r : Errs) (x : Str) (flds : List Str) (C : Addr) : Prop where
  er : Er P K mg x flds C
  kit : KitsG K r C
  no : ∀ n ∈ flds, PySem.W.findIn K (.ref C) n = some none
theorem ErX.xf {P : Program} {K : PySem.W.Frag} {mg : Str → Option Value} {r : Errs} {x : Str} {flds : List Str} {C : Addr} (e : ErX P K mg r x flds C) : XfC K C := ⟨e.kit.x.hg, e.kit.x.hk, e.kit.x.hs, e.kit.x.hd⟩
/-- the suite asks which error it holds -/
def tSing (K : PySem.W.Frag) (r : Errs) (a : Addr) (cls : Value) (d : Option Addr) (i : Nat) : TE := fun σ H Q => σ[i]? = some (some (V.ref a)) ∧ ∃ (D : Addr), cls = .ref D ∧ KitsG K r D ∧ DkAt H d ∧ ∀ H', Same H H' → Q (.bl true) H'
section
variable {X : Cx} {r : Errs} {a f : Addr} {oe : Obj} {cls : Value} {d : Option Addr} {pn : List (Addr × Obj)} {fd : FuncData} {q q2 q3 : Pos} {x : Str} {k : Nat}
theorem pe_single (i : Nat) (F : FnE X.prog X.w X.K X.mg X.base 1 f fd ["_law_e"] (spSingle X.K r)) (hr : Room 1 X.A) (hz : L2N.Zn cls d oe) (hf : ∃ vs, oe.data = .fields vs) (hm : X.mg "_law_single" = some (.ref f)) (hk : PySem.W.keepIn X.K (.ref f) = true) (hb : Binds X.K fd ["_law_e"] [])
    (hg : Gl (X.suite a ((a, oe) :: pn)) "_law_single" := by rfl) (hN : X.N[i]? = some x := by rfl) (hv : Vis X.env.scope x := by first | exact Or.inl rfl | exact Or.inr (Or.inl rfl)) (n1 : (x == ("__debug__" : Str)) = false := by decide) (n2 : (x == ("__classdict__" : Str)) = false := by decide)
    (he : starEach [.Name x q2] X.env = (false, eval (.Name x q2) X.env) :: starEach [] X.env := by rfl) (hpl : (backTo q3 (starEach [] X.env)).any (·.1) = false := by rfl) :
    PE (X.suite a ((a, oe) :: pn)) (.Call (.Name "_law_single" q) [.Name x q2] [] q3) (tSing X.K r a cls d i) := by
  have ⟨vs, ev⟩ := hf
  have hot : L2H.Hot1 (X.suite a ((a, oe) :: pn)).A (a, oe) := ⟨rfl, vs, ev, hz.2.2 vs ev⟩
  have room : L2H.RoomH 1 (X.suite a ((a, oe) :: pn)).A := ⟨hr.dp, hr.un⟩
  have R := pe_callE (X := X.suite a ((a, oe) :: pn)) (pos := q3) (q := q) F room hot List.mem_cons_self hg hm hk hb (pa_cons (e := .Name x q2) (es := []) (pe_var (X := X.suite a ((a, oe) :: pn)) (i := i) hN hv n1 n2) pa_nil) (by decide) he hpl
  refine ⟨fun pins s σ H Q I h => R.run pins s σ H Q I ?_⟩
  have ⟨h1, D, ec, kg, hdd, h2⟩ := h
  refine ⟨_, h1, D, d, rfl, kg, ?_, hf, hdd, h2⟩
  rw [← ec]
  exact hz.zc
end
end Eb
/-! what the top has written of errors -/
namespace Hd
open PySem PySem.Spec PyProof.Rows L2 Eb
theorem ec_ok {K : PySem.W.Frag} {C : Addr} (h : ecB K C = true) : ∃ nm q N bs bm sn sub ab col dd k0 k1 k2 k3 k5, K.lookup C = some (excClassObj nm q C N bs bm true sn sub ab col dd k0 k1 k2 k3 k5 "ValueError.__new__") ∧ PySem.HandSPX.refsVE bm = true := by
  unfold ecB at h
  split at h
  · rename_i c dd nm bs C' bm N q hd sn sub ab col del k0 k1 k2 k3 nw k5 e
    obtain ⟨h1, h⟩ := He.ba h
    obtain ⟨h2, h⟩ := He.ba h
    obtain ⟨h3, h⟩ := He.ba h
    obtain ⟨h4, h⟩ := He.ba h
    obtain ⟨h5, h6⟩ := He.ba h
    have e1 := of_decide_eq_true h1
    have e2 := of_decide_eq_true h2
    have e6 := of_decide_eq_true h6
    subst e1 e2 e6
    cases hd with
    | false => cases h4
    | true =>
      cases del with
      | true => cases h5
      | false => exact ⟨nm, q, N, bs, bm, sn, sub, ab, col, dd, k0, k1, k2, k3, k5, e, h3⟩
  · cases h
section
variable {K : PySem.W.Frag} {C D : Addr} {b : Bool}
theorem kitV_ty (h : PySem.W.subIn K (.ref D) (.type "ValueError") = some true) : PySem.W.kitOne K (.ref D) (.type "ValueError") = some true := by
  unfold PySem.W.kitOne
  rw [if_neg (by simp)]
  show (if PySem.W.kitMeta "ValueError" = true then PySem.W.subIn K (.ref D) (.type "ValueError") else none) = some true
  rw [if_pos (by decide +kernel)]
  exact h
theorem oex_mk {nm q : Str} {N : Addr} {bs bm : List Value} {sn : List Str} {sub : List Value} {ab : Bool} {col : Option Bool} {dd : Option Addr} {k0 k1 k2 k3 k5 : Option Value} (l : K.lookup C = some (excClassObj nm q C N bs bm true sn sub ab col dd k0 k1 k2 k3 k5 "ValueError.__new__")) (r : PySem.HandSPX.refsVE bm = true)
    (sa : PySem.W.findIn K (.ref C) "__setattr__" = some (some (.builtin "object.__setattr__"))) (ex : PySem.W.subIn K (.ref C) (.type "BaseException") = some true) (ty : PySem.W.typeIn K (.ref C) = some (.type "type")) (kC : PySem.W.keepIn K (.ref C) = true) : OexC K C :=
  ⟨⟨nm, q, N, bs, bm, sn, sub, ab, col, dd, k0, k1, k2, k3, k5, l, r⟩, sa, ex, ty, kC⟩
end
section
variable {P : Program} {K : PySem.W.Frag} {mg : Str → Option Value} {C f cda cc : Addr} {qual : Str} {st : Stmt} {oc ccl cl kV doc pm ct : Value} {od cdd cld an : Option Addr} {osl ccs csl : Array (Option Value)} {vs0 : Array Value} {file : Str} {tf : Tok}
theorem ert_mk (T : OexC K C) (self : PySem.W.mroIn K C (.ref C) = some true) (noS : mg "super" = none) (top : (P.main.scope.names.lookup ("super" : Str)).isSome = false) (sta : PySem.W.nsIn K cStatics "thirdparty.any" = some none)
    (al : PySem.W.ks_superIn K C C "__init__" = some (some (.builtin "ValueError.__init__"))) (vE : PySem.W.subIn K (.ref C) (.type "ValueError") = some true)
    (lk : K.lookup f = some ⟨oc, od, .func (PySem.W.ksFn "__init__" qual (defArgs st) (defBody st) (defScope st) .none kV doc pm an (.ref cda) ct cc), osl⟩) (cd : PySem.W.codeIn K (.ref cda) qual = true) (lc : K.lookup cda = some ⟨ccl, cdd, .fields vs0, ccs⟩)
    (hv : vs0[2]? = some (.str file tf)) (hf : ((P.main.file : Str) == file) = true) (cell : K.lookup cc = some ⟨cl, cld, .cell (some (.ref C)), csl⟩) (iC : PySem.W.findIn K (.ref C) "__init__" = some (some (.ref f))) (tI : PySem.W.typeIn K (.ref f) = some (.type "function")) :
    ErT P K mg C qual st f (PySem.W.ksFn "__init__" qual (defArgs st) (defBody st) (defScope st) .none kV doc pm an (.ref cda) ct cc) :=
  ⟨⟨T, self, noS, top, sta, al, vE⟩, ⟨oc, ccl, cl, od, cdd, cld, an, osl, ccs, csl, cda, cc, kV, doc, pm, ct, vs0, file, tf, rfl, lk, cd, lc, hv, hf, cell⟩, iC, tI⟩
end
end Hd
namespace Dl
open PySem PySem.Spec L2
/-! ## what lets errors out -/
abbrev GB := Env → Option (Ev × Env)
abbrev BF := List O → Option (Ev × List O)
/-- what a place wishes of an error that is let out there -/
def Lets (cl : Nat → Addr) (kp : List Nat) (Eh : XK) (τ : L2.St) (F H : Hp) (U0 : Addr → Prop) (env' : Env) (σ : L2.St) (e : Ev) : Prop :=
  ∀ F' H' fp' S cls d, Rs cl kp τ F' H' fp' env' σ → Go F H U0 F' H' (fun p => U fp' p ∨ S p) → ErrAt cl F' H' S e cls d → (∀ p, S p → F' p = none ∧ Nt H' p ∧ ¬ U fp' p) → Eh cls d H'
/-- a call that lets an error out -/
def spB (cl : Nat → Addr) (b : BF) : Sp := fun vs H _ E => ∃ F fp os e os', Rs cl [] (vs.map some) F H fp os (vs.map some) ∧ b os = some (e, os') ∧ Lets cl [] E (vs.map some) F H (U fp) os' (vs.map some) e
def spX (cl : Nat → Addr) (f : GF) (b : BF) : Sp := fun vs H Q E => spD cl f vs H Q E ∨ spB cl b vs H Q E
def fnB (ra : List Nat) (n m : Nat) (body : GS) : BF := fun os =>
  if os.length = n ∧ okRa ra os = true then (body (os ++ List.replicate m .un)).bind fun p => match p.1 with
    | .er e => some (e, finO ra 0 os p.2)
    | _ => none
  else none
def BE (cl : Nat → Addr) (kp : List Nat) (Eh : XK) (t : TE) (b : GB) : Prop :=
  ∀ ⦃τ : L2.St⦄ ⦃F H : Hp⦄ ⦃fp : Nat → Addr → Prop⦄ ⦃env : Env⦄ ⦃σ : L2.St⦄ ⦃Q : VK⦄ ⦃e : Ev⦄ ⦃env' : Env⦄, Rs cl kp τ F H fp env σ → b env = some (e, env') → Lets cl kp Eh τ F H (U fp) env' σ e → t σ H Q
def BS (cl : Nat → Addr) (kp : List Nat) (Eh : XK) (t : TS) (b : GB) : Prop :=
  ∀ ⦃τ : L2.St⦄ ⦃F H : Hp⦄ ⦃fp : Nat → Addr → Prop⦄ ⦃env : Env⦄ ⦃σ : L2.St⦄ ⦃D : Ends⦄ ⦃e : Ev⦄ ⦃env' : Env⦄, Rs cl kp τ F H fp env σ → b env = some (e, env') → Lets cl kp Eh τ F H (U fp) env' σ e → t D σ H
section
variable {cl : Nat → Addr} {kp : List Nat} {τ σ : L2.St} {F F' H H' : Hp} {fp : Nat → Addr → Prop} {env : Env} {S : Addr → Prop} {K : PySem.W.Frag} {Eh : XK}
theorem Lets.go {U0 U1 : Addr → Prop} {F1 H1 : Hp} {env' : Env} {e : Ev} (a : Go F H U0 F1 H1 U1) (h : Lets cl kp Eh τ F H U0 env' σ e) : Lets cl kp Eh τ F1 H1 U1 env' σ e :=
  fun F' H' fp' S cls d I go => h F' H' fp' S cls d I (a.trans go)
/-! ### calls -/
def callB (b : BF) (rs : List R) (env : Env) : Option (Ev × Env) := if (plIdx rs).Nodup then (argOs env rs).bind fun os => (b os).map fun p => (p.1, backO env rs p.2) else none
theorem callB_ok {b : BF} {rs : List R} {vs : List V} {e : Ev} {env' : Env} {Q : VK} (I : Rs cl kp τ F H fp env σ) (rr : RRs cl F σ rs vs) (h : callB b rs env = some (e, env')) (k : Lets cl kp Eh τ F H (U fp) env' σ e) : spB cl b vs H Q Eh := by
  unfold callB at h
  split at h
  case isFalse => cases h
  rename_i n
  obtain ⟨os, ha, h⟩ := Option.bind_eq_some_iff.mp h
  obtain ⟨⟨e2, os'⟩, hf, z⟩ := Option.map_eq_some_iff.mp h
  cases z
  refine ⟨F, fpArg fp rs, os, e2, os', I.args rr ha n, hf, fun F' H' fp' S cls d I' go ea nS => ?_⟩
  obtain ⟨fp2, I2, go2, n2⟩ := I.called rr ha n I' go nS
  exact k F' H' fp2 S cls d I2 go2 ea n2
def bCall (b : BF) (ds : List A) (g : Env → Option (List R × Env)) : GB := fun env => (g env).bind fun p => callB b (p.1 ++ ds.map .fz) p.2
theorem be_call {f : GF} {b : BF} {ds : List A} {dvs : List V} {t : TA} {g : Env → Option (List R × Env)} (hd : scV ds = some dvs) (h : SR cl kp t g) : BE cl kp Eh (tCall (spX cl f b) dvs Eh t) (bCall b ds g) := by
  intro τ F H fp env σ Q e env' I he k
  obtain ⟨⟨rs, e1⟩, h1, he⟩ := Option.bind_eq_some_iff.mp he
  exact h I h1 fun F1 H1 fp1 vs I1 go1 rr => .inr (callB_ok I1 (rr.app hd) he (k.go go1))
theorem se_callX {f : GF} {b : BF} {ds : List A} {dvs : List V} {E : XK} {t : TA} {g : Env → Option (List R × Env)} (hd : scV ds = some dvs) (h : SR cl kp t g) : SE cl kp false (tCall (spX cl f b) dvs E t) (gCall f ds g) := by
  intro τ F H fp env σ Q r env' I e k
  obtain ⟨⟨rs, e1⟩, h1, e⟩ := Option.bind_eq_some_iff.mp e
  exact h I h1 fun F1 H1 fp1 vs I1 go1 rr => .inl (call_ok I1 (rr.app hd) e fun F' H' fp' S v I' go' r' => k F' H' fp' S v I' (go1.trans go') r' fun z => nomatch z)
/-! ### statements -/
theorem bs_expr {t : TE} {b : GB} (h : BE cl kp Eh t b) : BS cl kp Eh (tDrop t) b := fun _ _ _ _ _ _ _ _ _ I e k => h I e k
/-- the statement goes well, or it lets the error out -/
def gOr (g : GS) (b : GB) : GS := fun env => match g env with
  | some p => some p
  | none => match b env with
    | some p => some (.er p.1, p.2)
    | none => none
theorem ss_or {t : TS} {g : GS} {b : GB} (h : SS cl kp Eh t g) (hb : BS cl kp Eh t b) : SS cl kp Eh t (gOr g b) := by
  intro τ F H fp env σ D f env' I e k
  unfold gOr at e
  split at e
  · rename_i p hp
    cases e
    exact h I hp k
  · split at e
    · rename_i p hp
      cases e
      exact hb I hp fun F' H' fp' S cls d I' go ea n => k F' H' fp' σ S cls d I' go ea n
    · cases e
/-! ### raise -/
def PrA : A → Prop
  | .int i => i.natAbs.log2 < 1920
  | .str y => y.length ≤ 1921
  | _ => False
theorem PrA.pr {a : A} {v : V} (p : PrA a) (h : Rp cl F a v) : Eb.Pr v := by
  cases a with
  | int i => cases (show v = V.int i from h); exact .inl ⟨i, rfl, p⟩
  | str y => cases (show v = V.str y from h); exact .inr ⟨y, rfl, p⟩
  | _ => exact p.elim
def fzs : List R → Option (List A)
  | [] => some []
  | .fz a :: rs => (fzs rs).map (a :: ·)
  | _ => none
theorem fzs_ok : ∀ {rs : List R} {xs : List A} {vs : List V}, fzs rs = some xs → RRs cl F σ rs vs → RpL cl F xs vs
  | [], _, _, e, h => by cases e; cases h; rfl
  | .fz a :: rs, _, _, e, h => by
    obtain ⟨ys, hy, rfl⟩ := Option.map_eq_some_iff.mp e
    obtain ⟨v, r, rfl, q, z⟩ := h
    exact ⟨v, r, rfl, q, fzs_ok hy z⟩
  | .pl _ :: _, _, _, e, _ => nomatch e
  | .pf _ _ :: _, _, _, e, _ => nomatch e
  | .ow _ :: _, _, _, e, _ => nomatch e
theorem prAs : ∀ {xs : List A} {vs : List V}, (∀ a ∈ xs, PrA a) → RpL cl F xs vs → ∀ v ∈ vs, Eb.Pr v
  | [], _, _, h, v, m => by cases h; cases m
  | a :: xs, _, p, h, v, m => by
    obtain ⟨u, r, rfl, q, z⟩ := h
    rcases List.mem_cons.mp m with rfl | m
    · exact (p a List.mem_cons_self).pr q
    · exact prAs (fun b hb => p b (List.mem_cons_of_mem _ hb)) z v m
open Classical in
noncomputable def gRaise (c : Nat) (g : Env → Option (List R × Env)) : GS := fun env => (g env).bind fun p => (fzs p.1).bind fun xs => if xs.length = (eF c).length ∧ ∀ a ∈ xs, PrA a then some (.er ⟨c, xs⟩, p.2) else none
theorem ss_raise {c : Nat} {flds : List Str} {ta : TA} {g : Env → Option (List R × Env)} (hf : eF c = flds) (h : SR cl kp ta g) : SS cl kp Eh (Eb.tRaiseEr (cl (100 + c)) flds (fun cls d _ H => Eh cls d H) ta) (gRaise c g) := by
  subst hf
  intro τ F H fp env σ D f env' I e k
  obtain ⟨⟨rs, e1⟩, h1, e⟩ := Option.bind_eq_some_iff.mp e
  obtain ⟨xs, hx, e⟩ := Option.bind_eq_some_iff.mp e
  split at e
  case isFalse => cases e
  rename_i c12
  cases e
  refine h I h1 fun F1 H1 fp1 vs I1 go1 rr => ?_
  have r := fzs_ok hx rr
  refine ⟨by rw [RpL.length r]; exact c12.1, prAs c12.2 r, fun d hd => ?_⟩
  have nU : ¬ U fp1 d := fun ⟨i, z⟩ => (I1.dom i d z).ne hd
  have nF : F1 d = none := by
    cases q : F1 d with
    | none => rfl
    | some o => rw [I1.le _ _ q] at hd; cases hd
  refine k F1 _ fp1 σ (fun p => p = d) _ _ (I1.apart (o := .xd ((eF c).zip vs).reverse) rfl nU nF) ?_ ⟨rfl, vs, .inr ⟨d, rfl, rfl, upd_same⟩, r, c12.1⟩ ?_
  · exact go1.trans (Go.laid hd)
  · rintro p rfl
    exact ⟨nF, ⟨_, upd_same, rfl⟩, nU⟩
end
/-! ### a def that may let errors out -/
section
variable {cl : Nat → Addr}
theorem body_okB {N : List Str} {vs : List V} {ra kp : List Nat} {m : Nat} {g : GS} {t : TS} {Q : VK} {n : Nat} {E : XK} {H : Hp} (hN : N.length = n + m) (hk : ∀ i, i < n → i ∉ ra → i ∈ kp) (h : SS cl kp E t g) (sp : spB cl (fnB ra n m g) vs H Q E) :
    t { nx := fun _ H' => Q .non H', rt := Q } (L2.start N vs) H := by
  obtain ⟨F, fp, os, e, os', I, he, k⟩ := sp
  unfold fnB at he
  split at he
  case isFalse => cases he
  rename_i c
  obtain ⟨l, ok⟩ := c
  obtain ⟨⟨f, env'⟩, hg, he⟩ := Option.bind_eq_some_iff.mp he
  have hf : f = .er e ∧ os' = finO ra 0 os env' := by cases f <;> cases he <;> exact ⟨rfl, rfl⟩
  obtain ⟨rfl, rfl⟩ := hf
  have ln : os.length = vs.length := by have := I.len; simpa using this
  have I0 := I.start m (by omega : N.length = vs.length + m) kp
  have go0 : Go F H (U fp) F H (U fun i p => i < vs.length ∧ fp i p) := Go.refl.mono fun p ⟨i, _, z⟩ => ⟨i, z⟩
  have sub : ∀ {fp' : Nat → Addr → Prop} (p : Addr), U (fun i p => i < vs.length ∧ i ∉ ra ∧ fp' i p) p → U fp' p := fun p ⟨i, _, _, z⟩ => ⟨i, z⟩
  refine h I0 hg ?_
  intro F' H' fp' σ' S cls d I' go ea nS
  exact k F' H' _ S cls d (I.fin ok (fun i hi hr => hk i (by omega) hr) (by omega) I' go.sF) ((go0.trans go).mono fun p z => z.imp (sub p) id) ea fun p s => ⟨(nS p s).1, (nS p s).2.1, fun z => (nS p s).2.2 (sub p z)⟩
end
section
variable {P : Program} {w : World} {K : PySem.W.Frag} {mg : Str → Option Value} {base : Heap} {cl : Nat → Addr}
theorem _root_.L2.Fun.okB {x qual : Str} {st : Stmt} {f : Addr} {fd : FuncData} {N ps : List Str} {k k0 : Nat} {D : GF} (F : Fun K x qual st f fd) (S : FnScope N ps (defScope st)) (ra kp : List Nat) (m : Nat) (g : GS) (good : FnOk P w K mg base CX0 k0 f fd ps (spD cl D)) (h0 : k0 ≤ k + 1)
    (hN : N.length = ps.length + m) (hk : ((List.range ps.length).all fun i => ra.contains i || kp.contains i) = true)
    (body : ∀ (cdv : Value) (A : Around) (outer : List PySem.Env) (s : Shared) (H : Hp) (E : XK), Room k (A.deeper (PyProof.Rows.envOfC qual (defScope st) s.heap.objs.size f cdv)) →
      ∃ t, PSs (cxOf (L2N.CX P w) P w K mg base N qual (defScope st) f cdv A outer s H E) (defBody st) t ∧ SS cl kp E t g) : FnOk P w K mg base (L2N.CX P w) (k + 1) f fd ps (spX cl D (fnB ra ps.length m g)) := by
  refine (good.free.mono h0).or (F.okN S (fun vs H Q E h => ?_) (fun cdv A outer s H vs Q E hr h => ?_))
  · obtain ⟨F, fp, os, e, os', I, he, _⟩ := h
    unfold fnB at he
    split at he
    case isFalse => cases he
    rename_i c
    have := I.len
    rw [List.length_map] at this
    omega
  · obtain ⟨t, ht, hs⟩ := body cdv A outer s H E hr
    refine ⟨t, ht, body_okB hN (fun i hi hr => ?_) hs h⟩
    have := List.all_eq_true.mp hk i (List.mem_range.mpr hi)
    rcases Bool.or_eq_true_iff.mp this with z | z
    · exact (hr (by simpa using z)).elim
    · simpa using z
end
end Dl
namespace Dl
open PySem PySem.Spec L2
/-- where the classes of errors stand -/
def erOf (cl : Nat → Addr) : Eb.Errs := ⟨cl 99, cl 100, cl 101, cl 102, cl 103, cl 104, cl 105, cl 106, cl 107, cl 108, cl 109, cl 110, cl 111, cl 112, cl 113, cl 114, cl 115, cl 116, cl 117, cl 118⟩
/-- the dict of an error of the class c with the attributes vs -/
def DAt (H : Hp) (c : Nat) (vs : List V) (d : Option Addr) : Prop := EdAt H (fun _ => True) c vs d
theorem EdAt.dAt {H : Hp} {S : Addr → Prop} {c : Nat} {vs : List V} {d : Option Addr} (h : EdAt H S c vs d) : DAt H c vs d := h.imp id fun ⟨dd, a, _, b⟩ => ⟨dd, a, trivial, b⟩
theorem DAt.same {H H' : Hp} {c : Nat} {vs : List V} {d : Option Addr} (h : DAt H c vs d) (s : Same H H') : DAt H' c vs d := h.imp id fun ⟨dd, a, t, b⟩ => ⟨dd, a, t, s _ _ b⟩
theorem DAt.dk {H : Hp} {c : Nat} {vs : List V} {d : Option Addr} (h : DAt H c vs d) : DkAt H d := fun dd e => by
  rcases h with ⟨_, z⟩ | ⟨d2, z, _, q⟩
  · rw [z] at e; cases e
  · rw [z] at e; cases e; exact ⟨_, q⟩
/-! ## try .. except C as n: return [..] -/
section
variable (cl : Nat → Addr) (K : PySem.W.Frag) (i c : Nat)
/-- an item of the list that a clause gives -/
def HE (te : Addr → Value → Option Addr → TE) (x : List A → A) : Prop :=
  ∀ ⦃a : Addr⦄ ⦃dd : Option Addr⦄ ⦃σ : L2.St⦄ ⦃F H : Hp⦄ ⦃xs : List A⦄ ⦃vs : List V⦄ ⦃Q : VK⦄, σ[i]? = some (some (V.ref a)) → DAt H c vs dd → RpL cl F xs vs → xs.length = (eF c).length → (∀ H' v, Same H H' → Rp cl F (x xs) v → Q v H') → te a (.ref (cl (100 + c))) dd σ H Q
def HA (ta : Addr → Value → Option Addr → TA) (f : List A → List A) : Prop :=
  ∀ ⦃a : Addr⦄ ⦃dd : Option Addr⦄ ⦃σ : L2.St⦄ ⦃F H : Hp⦄ ⦃xs : List A⦄ ⦃vs : List V⦄ ⦃Q : List V → Hp → Prop⦄, σ[i]? = some (some (V.ref a)) → DAt H c vs dd → RpL cl F xs vs → xs.length = (eF c).length → (∀ H' ws, Same H H' → RpL cl F (f xs) ws → Q ws H') → ta a (.ref (cl (100 + c))) dd σ H Q
/-- the suite of a clause -/
def HS (ts : Addr → Value → Option Addr → TS) (f : List A → List A) : Prop :=
  ∀ ⦃a : Addr⦄ ⦃dd : Option Addr⦄ ⦃σ : L2.St⦄ ⦃F H : Hp⦄ ⦃xs : List A⦄ ⦃vs : List V⦄ ⦃D : Ends⦄, σ[i]? = some (some (V.ref a)) → DAt H c vs dd → RpL cl F xs vs → xs.length = (eF c).length → (∀ H' q ws, Same H H' → H q = none → H' q = some (.lst ws) → RpL cl F (f xs) ws → D.rt (.ref q) H') → ts a (.ref (cl (100 + c))) dd D σ H
end
/-- the clauses -/
def HD (cl : Nat → Addr) (K : PySem.W.Frag) (n i : Nat) (tab : Nat → Option (List A → List A)) (l : L2N.Clauses) : Prop :=
  ∀ ⦃Wout : WX⦄ ⦃D : Ends⦄ ⦃c : Nat⦄ ⦃f : List A → List A⦄ ⦃σ : L2.St⦄ ⦃F H : Hp⦄ ⦃xs : List A⦄ ⦃vs : List V⦄ ⦃dd : Option Addr⦄, tab c = some f → σ.length = n → i < n → DAt H c vs dd → RpL cl F xs vs → xs.length = (eF c).length →
    (∀ H' q ws, Same H H' → H q = none → H' q = some (.lst ws) → RpL cl F (f xs) ws → D.rt (.ref q) H') → L2N.wClauses K i Wout D l (.ref (cl (100 + c))) dd σ H
section
variable {cl : Nat → Addr} {K : PySem.W.Frag} {i c n : Nat}
theorem he_c {v : V} {a : A} (h : a.sc = some v) : HE cl i c (fun _ _ _ => tC v) (fun _ => a) := fun _ _ _ _ H _ _ Q _ _ _ _ k => k H v (Same.refl H) (Rp.of_sc h)
theorem he_f {nm : Str} {k : Nat} (hl : ∀ vs : List V, vs.length = (eF c).length → ((eF c).zip vs).reverse.lookup nm = vs[k]?) (hk : k < (eF c).length) : HE cl i c (fun a cls d => tXf a cls d (cl (100 + c)) nm (tVar i)) (fun xs => xs.getD k .non) := by
  intro a dd σ F H xs vs Q s hd r le q
  have e : xs[k]? = some (xs.getD k .non) := by rw [List.getD_eq_getElem?_getD, List.getElem?_eq_getElem (by omega)]; rfl
  obtain ⟨v, hv, hr⟩ := RpL.at r e
  rcases hd with ⟨z, _⟩ | ⟨d2, rfl, _, hd⟩
  · rw [z] at hk; cases hk
  exact ⟨_, s, rfl, rfl, d2, _, v, rfl, hd, by rw [hl vs (by rw [RpL.length r]; exact le)]; exact hv, q H v (Same.refl H) hr⟩
theorem he_s {r : Eb.Errs} (kg : Eb.KitsG K r (cl (100 + c))) : HE cl i c (fun a cls d => Eb.tSing K r a cls d i) (fun _ => .bl true) := by
  intro a dd σ F H xs vs Q s hd rr le q
  exact ⟨s, _, rfl, kg, hd.dk, fun H' k => q H' _ k rfl⟩
theorem ha_nil : HA cl i c (fun _ _ _ => tNil) (fun _ => []) := fun _ _ _ _ H _ _ Q _ _ _ _ k => k H [] (Same.refl H) rfl
theorem ha_cons {te : Addr → Value → Option Addr → TE} {ta : Addr → Value → Option Addr → TA} {x : List A → A} {f : List A → List A} (h : HE cl i c te x) (hs : HA cl i c ta f) : HA cl i c (fun a cls d => tCons (te a cls d) (ta a cls d)) (fun xs => x xs :: f xs) := by
  intro a dd σ F H xs vs Q s hd r le k
  refine h s hd r le fun H1 v s1 rv => hs s (hd.same s1) r le fun H2 ws s2 rw => k H2 (v :: ws) (s1.trans s2) ⟨v, ws, rfl, rv, rw⟩
theorem hs_ret {ta : Addr → Value → Option Addr → TA} {f : List A → List A} (h : HA cl i c ta f) (hf : ∀ xs, (f xs).length ≤ sizeLine) : HS cl i c (fun a cls d => tRet (tLst (ta a cls d))) f := by
  intro a dd σ F H xs vs D s hd r le k
  refine h s hd r le fun H1 ws s1 rw => ⟨by rw [RpL.length rw]; exact hf xs, fun q hq => k _ q ws (updN s1 ?_) ?_ upd_same rw⟩
  · cases e : H q with
    | none => rfl
    | some o => rw [s1 _ _ e] at hq; cases hq
  · cases e : H q with
    | none => rfl
    | some o => rw [s1 _ _ e] at hq; cases hq
theorem hd_nil : HD cl K n i (fun _ => none) [] := fun _ _ _ _ _ _ _ _ _ _ e => nomatch e
theorem hd_cons {ts : Addr → Value → Option Addr → TS} {f : List A → List A} {tab : Nat → Option (List A → List A)} {l : L2N.Clauses} (hit : PySem.W.exmOne K (.ref (cl (100 + c))) (.ref (cl (100 + c))) = some true)
    (miss : ∀ c', (tab c').isSome = true → c' ≠ c → PySem.W.exmOne K (.ref (cl (100 + c'))) (.ref (cl (100 + c))) = some false) (h : HS cl i c ts f) (hl : HD cl K n i tab l) :
    HD cl K n i (fun c' => if c' = c then some f else tab c') ((.ref (cl (100 + c)), ts) :: l) := by
  intro Wout D c' f' σ F H xs vs dd ht ln hi hd r le k
  by_cases e : c' = c
  · subst e
    simp only [if_true, Option.some.injEq] at ht
    subst ht
    refine ⟨true, hit, ?_⟩
    rw [if_pos rfl]
    exact fun a _ => h (by rw [List.getElem?_set_self (by omega)]) hd r le k
  · simp only [e, if_false] at ht
    refine ⟨false, miss c' (by rw [ht]; rfl) e, ?_⟩
    rw [if_neg Bool.false_ne_true]
    exact hl ht ln hi hd r le k
end
/-! ### the def -/
def fnT (ra : List Nat) (n m : Nat) (g gt : GS) (tab : Nat → Option (List A → List A)) : GF := fun os =>
  if os.length = n ∧ okRa ra os = true then (g (os ++ List.replicate m .un)).bind fun p => match p.1 with
    | .nx => (gt p.2).bind fun q => match q.1 with
      | .rt o => some (o, finO ra 0 os q.2)
      | _ => none
    | .rt o => some (o, finO ra 0 os p.2)
    | .er e => (tab e.c).map fun f => (.fl (.lst (f e.xs)), finO ra 0 os p.2)
    | _ => none
  else none
section
variable {cl : Nat → Addr} {kp : List Nat} {τ σ : L2.St} {F F' H H' : Hp} {fp : Nat → Addr → Prop} {env : Env} {S : Addr → Prop}
theorem Rs.sameH (I : Rs cl kp τ F H fp env σ) {H2 : Hp} (s : Same H H2) : Rs cl kp τ F H2 fp env σ :=
  ⟨I.len, fun i x e => (I.slot i x e).imp id fun ⟨v, a, b⟩ => ⟨v, a, OR.go (Same.refl F) (fun q u h e => s _ _ e) b⟩, I.dis, I.sep, fun i q h => let ⟨o, a, b⟩ := I.dom i q h; ⟨o, s _ _ a, b⟩, I.le.trans s, I.pro, I.tl⟩
theorem body_okT {N : List Str} {vs : List V} {ra kp : List Nat} {m : Nat} {g gt : GS} {tab : Nat → Option (List A → List A)} {tb : WX → TS} {tt : TS} {Q : VK} {n i : Nat} {E Et : XK} {l : L2N.Clauses} {Wout : WX} {K : PySem.W.Frag} (hN : N.length = n + m) (hi : i < N.length) (hk : ∀ i, i < n → i ∉ ra → i ∈ kp)
    (hb : ∀ W, SS cl kp (eAll N.length W) (tb W) g) (ht : SS cl kp Et tt gt) (hd : HD cl K N.length i tab l) (sp : spD cl (fnT ra n m g gt tab) vs H Q E) :
    tSeq (fun D σ H => tb (L2N.wClauses K i Wout D l) D σ H) tt { nx := fun _ H' => Q .non H', rt := Q } (L2.start N vs) H := by
  obtain ⟨F, fp, os, res, os', I, he, k⟩ := sp
  unfold fnT at he
  split at he
  case isFalse => cases he
  rename_i c
  obtain ⟨l0, ok⟩ := c
  obtain ⟨⟨f, env1⟩, hg, he⟩ := Option.bind_eq_some_iff.mp he
  have ln : os.length = vs.length := by have := I.len; simpa using this
  have I0 := I.start m (by omega : N.length = vs.length + m) kp
  have go0 : Go F H (U fp) F H (U fun i p => i < vs.length ∧ fp i p) := Go.refl.mono fun p ⟨i, _, z⟩ => ⟨i, z⟩
  have sub : ∀ {fp' : Nat → Addr → Prop} (p : Addr), U (fun i p => i < vs.length ∧ i ∉ ra ∧ fp' i p) p → U fp' p := fun p ⟨i, _, _, z⟩ => ⟨i, z⟩
  have fin : ∀ {F' H' : Hp} {fp' : Nat → Addr → Prop} {env' : Env} {σ' : L2.St}, Rs cl kp (L2.start N vs) F' H' fp' env' σ' → Same F F' → Rs cl [] (vs.map some) F' H' (fun i p => i < vs.length ∧ i ∉ ra ∧ fp' i p) (finO ra 0 os env') (vs.map some) :=
    fun I' s => I.fin ok (fun i hi hr => hk i (by omega) hr) (by omega) I' s
  refine hb _ I0 hg ?_
  cases f with
  | nx =>
    obtain ⟨⟨f2, env2⟩, hg2, he⟩ := Option.bind_eq_some_iff.mp he
    intro F1 H1 fp1 σ1 I1 go1
    refine ht I1 hg2 ?_
    cases f2 with
    | rt o =>
      cases he
      intro F' H' fp' σ' S v I' go rr nS
      exact k F' H' _ S v (fin I' (go1.sF.trans go.sF)) (((go0.trans go1).trans go).mono fun p z => z.imp (sub p) id) rr fun p s => ⟨(nS p s).1, (nS p s).2.1, fun z => (nS p s).2.2 (sub p z)⟩
    | _ => cases he
  | rt o =>
    cases he
    intro F' H' fp' σ' S v I' go rr nS
    exact k F' H' _ S v (fin I' go.sF) ((go0.trans go).mono fun p z => z.imp (sub p) id) rr fun p s => ⟨(nS p s).1, (nS p s).2.1, fun z => (nS p s).2.2 (sub p z)⟩
  | er e =>
    obtain ⟨h, hh, z⟩ := Option.map_eq_some_iff.mp he
    cases z
    intro F' H' fp' σ' S cls d I' go ea nS σ2 hl
    obtain ⟨rfl, ws, hdd, r, le⟩ := ea
    refine hd hh hl hi hdd.dAt r le fun H2 q us s2 hq h2 ru => ?_
    have J := (fin I' go.sF).sameH s2
    have fq : F' q = none := by
      cases z : F' q with
      | none => rfl
      | some o => rw [I'.le _ _ z] at hq; cases hq
    have nq : ¬ U fp' q := fun ⟨j, z⟩ => (I'.dom j q z).ne hq
    have G := (go0.trans go).trans (Go.of_same s2)
    refine k F' H2 _ (fun p => p = q) (.ref q) J ⟨G.sF, G.keep, G.new, fun p z => ?_, G.dom, G.ntd⟩ ⟨q, us, rfl, rfl, h2, ru⟩ ?_
    · rcases z with z | z
      · exact G.fpn p (.inl (sub p z))
      · subst z
        cases w : H p with
        | none => exact .inr rfl
        | some o => exact ((go0.trans go).dom p (by rw [w]; exact fun z => nomatch z) hq).elim
    · rintro p rfl
      exact ⟨fq, ⟨_, h2, rfl⟩, fun z => nq (sub p z)⟩
  | bk => cases he
  | ct => cases he
end
section
variable {P : Program} {w : World} {K : PySem.W.Frag} {mg : Str → Option Value} {base : Heap} {cl : Nat → Addr}
theorem fnT_len {ra : List Nat} {n m : Nat} {g gt : GS} {tab : Nat → Option (List A → List A)} {os : List O} {r : O × List O} (h : fnT ra n m g gt tab os = some r) : os.length = n := by
  unfold fnT at h
  split at h
  · rename_i c; exact c.1
  · cases h
theorem _root_.L2.Fun.okTry {x qual : Str} {st : Stmt} {f : Addr} {fd : FuncData} {N ps : List Str} {k : Nat} (F : Fun K x qual st f fd) (S : FnScope N ps (defScope st)) (ra kp : List Nat) (m i : Nat) (g gt : GS) (tab : Nat → Option (List A → List A))
    (hN : N.length = ps.length + m) (hi : i < N.length) (hk : ((List.range ps.length).all fun i => ra.contains i || kp.contains i) = true)
    (body : ∀ (cdv : Value) (A : Around) (outer : List PySem.Env) (s : Shared) (H : Hp) (E : XK), Room k (A.deeper (PyProof.Rows.envOfC qual (defScope st) s.heap.objs.size f cdv)) →
      ∃ (tb : WX → TS) (l : L2N.Clauses) (Wout : WX) (tt : TS), PSs (cxOf CX0 P w K mg base N qual (defScope st) f cdv A outer s H E).nox (defBody st) (tSeq (fun D σ H => tb (L2N.wClauses K i Wout D l) D σ H) tt) ∧ (∀ W, SS cl kp (eAll N.length W) (tb W) g) ∧ SS cl kp E tt gt ∧ HD cl K N.length i tab l) :
    FnOk P w K mg base CX0 (k + 1) f fd ps (spD cl (fnT ra ps.length m g gt tab)) := by
  refine F.ok S (fun vs H Q E h => ?_) (fun cdv A outer s H vs Q E hr h => ?_)
  · obtain ⟨F, fp, os, res, os', I, e, _⟩ := h
    have l := fnT_len e
    have := I.len
    rw [List.length_map] at this
    omega
  · obtain ⟨tb, l, Wout, tt, hp, hb, ht, hd⟩ := body cdv A outer s H E hr
    refine ⟨_, hp, body_okT hN hi (fun i hi hr => ?_) hb ht hd h⟩
    have := List.all_eq_true.mp hk i (List.mem_range.mpr hi)
    rcases Bool.or_eq_true_iff.mp this with z | z
    · exact (hr (by simpa using z)).elim
    · simpa using z
end
end Dl
namespace Dl
open PySem PySem.Spec L2
/-! ### f(..) whose arguments are lent: f changes none of them, its result holds nothing of them -/
def vws (env : Env) : List R → Option (List A)
  | [] => some []
  | r :: rs => (r.vw env).bind fun a => (vws env rs).map (a :: ·)
section
variable {cl : Nat → Addr} {kp : List Nat} {τ σ : L2.St} {F F' H H' : Hp} {fp : Nat → Addr → Prop} {env : Env} {S : Addr → Prop} {K : PySem.W.Frag} {Eh : XK}
theorem lent (I : Rs cl kp τ F H fp env σ) : ∀ {rs : List R} {vs : List V} {as : List A}, RRs cl F σ rs vs → vws env rs = some as → RpL cl (Dl.plus F H (U fp)) as vs
  | [], _, _, h, e => by cases h; cases e; rfl
  | .fz b :: rs, _, _, h, e => by
    obtain ⟨v, r, rfl, q, z⟩ := h
    obtain ⟨a, ha, e⟩ := Option.bind_eq_some_iff.mp e
    obtain ⟨as, hs, rfl⟩ := Option.map_eq_some_iff.mp e
    cases ha
    exact ⟨v, r, rfl, Rp.same (plus_le fun p ⟨i, h⟩ => I.sep i p h) q, lent I z hs⟩
  | .pl i :: rs, _, _, h, e => by
    obtain ⟨v, r, rfl, q, z⟩ := h
    obtain ⟨a, ha, e⟩ := Option.bind_eq_some_iff.mp e
    obtain ⟨as, hs, rfl⟩ := Option.map_eq_some_iff.mp e
    obtain ⟨o, ho, w⟩ := Option.bind_eq_some_iff.mp (show (env[i]?.bind O.vw) = some a from ha)
    obtain ⟨u, hu, r'⟩ := I.at ho w
    rw [q] at hu
    cases hu
    have rp := OR.plus (I.sep i) r' w
    refine ⟨v, r, rfl, Rp.same (fun p o e => ?_) rp, lent I z hs⟩
    by_cases c : fp i p
    · rw [plus_in c] at e; rw [plus_in ⟨i, c⟩]; exact e
    · rw [plus_out c] at e
      rw [plus_out fun ⟨j, z⟩ => by rw [I.sep j p z] at e; cases e]; exact e
  | .pf _ _ :: _, _, _, h, _ => h.elim
  | .ow _ :: _, _, _, h, _ => h.elim
theorem Rs.frozen (le : Same F H) {as : List A} {vs : List V} (h : RpL cl F as vs) : Rs cl [] (vs.map some) F H (fun _ _ => False) (as.map fun a => .fl (.fz a)) (vs.map some) := by
  refine ⟨by rw [List.length_map, List.length_map]; exact h.length.symm, fun i o e => ?_, fun _ _ _ z => z.elim, fun _ _ z => z.elim, fun _ _ z => z.elim, le, (fun i m => nomatch m), rfl⟩
  rw [List.getElem?_map] at e
  obtain ⟨a, ha, rfl⟩ := Option.map_eq_some_iff.mp e
  obtain ⟨v, hv, q⟩ := h.at ha
  exact .inr ⟨v, by rw [List.getElem?_map, hv]; rfl, q⟩
theorem Rp.free {a : A} {v : V} (e : a.sc.isSome = true) (h : Rp cl F a v) (F' : Hp) : Rp cl F' a v := by
  obtain ⟨u, hu⟩ := Option.isSome_iff_exists.mp e
  rw [Rp.sc hu h]; exact Rp.of_sc hu
theorem RpL.free : ∀ {xs : List A} {vs : List V}, (scV xs).isSome = true → RpL cl F xs vs → ∀ F' : Hp, RpL cl F' xs vs
  | [], _, _, h, _ => h
  | x :: xs, _, e, h, F' => by
    obtain ⟨v, r, rfl, q, z⟩ := h
    obtain ⟨us, hu⟩ := Option.isSome_iff_exists.mp e
    obtain ⟨u, h1, hu⟩ := Option.bind_eq_some_iff.mp hu
    obtain ⟨ws, h2, _⟩ := Option.map_eq_some_iff.mp hu
    exact ⟨v, r, rfl, Rp.free (by rw [h1]; rfl) q F', RpL.free (by rw [h2]; rfl) z F'⟩
end
end Dl
namespace Dl
open PySem PySem.Spec L2
section
variable {cl : Nat → Addr} {kp : List Nat} {τ σ : L2.St} {F F' H H' : Hp} {fp : Nat → Addr → Prop} {env : Env} {S : Addr → Prop} {K : PySem.W.Frag} {Eh : XK}
/-! ### own operators that let errors out -/
/-! ### the walk of a comprehension -/
end
end Dl
namespace L2
open PySem PySem.Spec PyProof.Rows
/-! ## o[i] = v, o an own instance -/
section
variable {X : Cx} {CX : CXT} {k : Nat} {C f : Addr} {fd : FuncData} {ps : List Str} {sp : Sp} {E : XK}
end
end L2
namespace Dl
open PySem PySem.Spec L2
section
variable {cl : Nat → Addr} {kp : List Nat} {τ σ : L2.St} {F F' H H' : Hp} {fp : Nat → Addr → Prop} {env : Env} {S : Addr → Prop} {K : PySem.W.Frag} {Eh : XK}
end
end Dl
namespace Dl
open PySem PySem.Spec L2
section
variable {cl : Nat → Addr} {kp : List Nat} {τ σ : L2.St} {F F' H H' : Hp} {fp : Nat → Addr → Prop} {env : Env} {S : Addr → Prop} {K : PySem.W.Frag} {Eh : XK}
/-! ## d.pop(k), d.pop(k, x) -/
/-! ## bits -/
end
end Dl
namespace Dl
open PySem PySem.Spec L2
/-! ### calls whose arguments are lent: the result is made of plain things, tuples and instances of other kinds -/
def O.nsOf : O → Option (List Str)
  | .ins _ ns _ => some ns
  | _ => none
section
variable {cl : Nat → Addr} {kp : List Nat} {τ σ : L2.St} {F F' H H' : Hp} {fp : Nat → Addr → Prop} {env : Env} {S L : Addr → Prop} {K : PySem.W.Frag} {Eh : XK} {nss : List (List Str)}
/-- a lent cell -/
def Cell (nss : List (List Str)) (L : Addr → Prop) (H : Hp) (p : Addr) : Prop := (∃ vs, H p = some (.lst vs)) ∨ (∃ k, H p = some (.dK k)) ∨ (∃ k, H p = some (.dT k)) ∨ (∃ C dx ns vs, H p = some (.ins C dx (ns.zip vs)) ∧ ns ∈ nss ∧ ns.length = vs.length) ∨ ∃ q, L q ∧ H p = some (.own q)
/-- the cells of an owned thing, no more -/
def Ex (H : Hp) (v : V) : O → Addr → Prop
  | .un, _ => False
  | .fl f, q => f.own = true ∧ v = .ref q
  | .ins _ ns fs, q => ∃ (p C dx : Addr) (vs : List V), v = .ref p ∧ H p = some (.ins C dx (ns.zip vs)) ∧ ns.length = vs.length ∧ (q = p ∨ q = dx ∨ ∃ (j : Nat) (f : Fl) (u : V), fs[j]? = some f ∧ vs[j]? = some u ∧ f.own = true ∧ u = .ref q)
theorem flo_cell {f : Fl} {o : HO} {p : Addr} (h : FlO cl F f o) (e : H p = some o) : Cell nss L H p := by
  cases f with
  | fz a => exact h.elim
  | lst xs => obtain ⟨vs, rfl, _⟩ := h; exact .inl ⟨_, e⟩
  | dK ks xs => obtain ⟨vs, rfl, _⟩ := h; exact .inr (.inl ⟨_, e⟩)
  | dT ks xs => obtain ⟨vs, rfl, _⟩ := h; exact .inr (.inr (.inl ⟨_, e⟩))
theorem OR.exact {o : O} {v : V} (h : OR cl F H S o v) : (∀ q, Ex H v o q → S q) ∧ OR cl F H (Ex H v o) o v ∧ ∀ nss, (∀ ns, o.nsOf = some ns → ns ∈ nss) → ∀ L : Addr → Prop, (∀ q, Ex H v o q → L q) → ∀ q, Ex H v o q → Cell nss L H q := by
  cases o with
  | un => exact ⟨fun _ z => z.elim, trivial, fun _ _ _ _ _ z => z.elim⟩
  | fl f =>
    refine ⟨fun q ⟨w, e⟩ => ?_, ?_, fun nss _ L _ q ⟨w, e⟩ => ?_⟩
    · obtain ⟨p, o, e', s, _, _⟩ := FlR.root h w
      rw [e] at e'; cases e'; exact s
    · by_cases w : f.own = true
      · obtain ⟨p, o, e', s, hp, ho⟩ := FlR.root h w
        subst e'
        exact FlR.of_root ⟨w, rfl⟩ hp ho
      · cases f with
        | fz a => exact h
        | _ => exact absurd rfl w
    · obtain ⟨p, o, e', s, hp, ho⟩ := FlR.root h w
      rw [e] at e'; cases e'
      exact flo_cell ho hp
  | ins c ns fs =>
    obtain ⟨p, dx, vs, T, rfl, sp, sd, q, d, z, z', rr, t1, t2⟩ := h
    have same : ∀ {p' C dx' : Addr} {vs' : List V}, V.ref p = V.ref p' → H p' = some (.ins C dx' (ns.zip vs')) → ns.length = vs'.length → p' = p ∧ C = cl c ∧ dx' = dx ∧ vs' = vs := fun {p' C dx' vs'} e1 e2 e3 => by
      cases e1
      rw [q] at e2
      injection e2 with e2
      injection e2 with y1 y2 y3
      refine ⟨rfl, y1.symm, y2.symm, ?_⟩
      have := congrArg (List.map Prod.snd) y3
      rw [List.map_snd_zip (by omega), List.map_snd_zip (by omega)] at this
      exact this.symm
    have fld : ∀ {j : Nat} {f : Fl} {u : V} {a : Addr}, fs[j]? = some f → vs[j]? = some u → f.own = true → u = .ref a → T j a ∧ ∃ o, H a = some o ∧ FlO cl F f o := fun {j f u a} hf hu w e => by
      obtain ⟨b, o, e', s, hb, ho⟩ := FlR.root (rr j f u hf hu) w
      rw [e] at e'; cases e'
      exact ⟨s, o, hb, ho⟩
    refine ⟨fun a ⟨p', C, dx', vs', e1, e2, e3, k⟩ => ?_, ?_, fun nss hn L hl a ⟨p', C, dx', vs', e1, e2, e3, k⟩ => ?_⟩
    · obtain ⟨rfl, _, rfl, rfl⟩ := same e1 e2 e3
      rcases k with rfl | rfl | ⟨j, f, u, hf, hu, w, e⟩
      · exact sp
      · exact sd
      · exact (t1 j a (fld hf hu w e).1).1
    · refine ⟨p, dx, vs, fun (j : Nat) (a : Addr) => ∃ (f : Fl) (u : V), fs[j]? = some f ∧ vs[j]? = some u ∧ f.own = true ∧ u = V.ref a, rfl, ⟨p, _, dx, vs, rfl, q, by omega, .inl rfl⟩, ⟨p, _, dx, vs, rfl, q, by omega, .inr (.inl rfl)⟩, q, d, z, z', fun j f u hf hu => ?_, fun j a ⟨f, u, hf, hu, w, e⟩ => ?_, fun j k a ⟨f, u, hf, hu, w, e⟩ ⟨f', u', hf', hu', w', e'⟩ => t2 j k a (fld hf hu w e).1 (fld hf' hu' w' e').1⟩
      · by_cases w : f.own = true
        · obtain ⟨b, o, e', s, hb, ho⟩ := FlR.root (rr j f u hf hu) w
          subst e'
          exact FlR.of_root ⟨f, _, hf, hu, w, rfl⟩ hb ho
        · have hr := rr j f u hf hu
          cases f with
          | fz a => exact hr
          | _ => exact absurd rfl w
      · exact ⟨⟨p, _, dx, vs, rfl, q, by omega, .inr (.inr ⟨j, f, u, hf, hu, w, e⟩)⟩, (t1 j a (fld hf hu w e).1).2⟩
    · obtain ⟨rfl, _, rfl, rfl⟩ := same e1 e2 e3
      have lp : L p' := hl p' ⟨p', _, dx', vs', rfl, q, e3, .inl rfl⟩
      rcases k with rfl | rfl | ⟨j, f, u, hf, hu, w, e⟩
      · exact .inr (.inr (.inr (.inl ⟨_, _, ns, vs', q, hn ns rfl, e3⟩)))
      · exact .inr (.inr (.inr (.inr ⟨p', lp, d⟩)))
      · obtain ⟨_, o, ha, ho⟩ := fld hf hu w e
        exact flo_cell ho ha
end
end Dl
namespace Dl
open PySem PySem.Spec L2
/-! ### lent arguments, by the kinds of what is lent -/
section
variable {cl : Nat → Addr} {kp : List Nat} {τ σ : L2.St} {F F' H H' : Hp} {fp : Nat → Addr → Prop} {env : Env} {S L : Addr → Prop} {K : PySem.W.Frag} {Eh : XK} {l d : Bool} {nss : List (List Str)}
def Cell2 (l d : Bool) (nss : List (List Str)) (L : Addr → Prop) (H : Hp) (p : Addr) : Prop := (l = false ∧ ∃ vs, H p = some (.lst vs)) ∨ (d = false ∧ ∃ k, H p = some (.dK k)) ∨ (d = false ∧ ∃ k, H p = some (.dT k)) ∨ (∃ C dx ns vs, H p = some (.ins C dx (ns.zip vs)) ∧ ns ∈ nss ∧ ns.length = vs.length) ∨ ∃ q, L q ∧ H p = some (.own q)
theorem Cell2.no {p : Addr} {u : HO} (h : Cell2 l d nss L F p) (e : F p = some u) : (l = false ∧ ∃ vs, u = .lst vs) ∨ (d = false ∧ ∃ k, u = .dK k) ∨ (d = false ∧ ∃ k, u = .dT k) ∨ (∃ C dx ns vs, u = .ins C dx (ns.zip vs) ∧ ns ∈ nss ∧ ns.length = vs.length) ∨ ∃ q, L q ∧ u = .own q := by
  rcases h with ⟨a, vs, z⟩ | ⟨a, k, z⟩ | ⟨a, k, z⟩ | ⟨C, dx, ns, vs, z, m, ly⟩ | ⟨q, lq, z⟩ <;> rw [e] at z <;> injection z with z <;> subst z
  · exact .inl ⟨a, vs, rfl⟩
  · exact .inr (.inl ⟨a, k, rfl⟩)
  · exact .inr (.inr (.inl ⟨a, k, rfl⟩))
  · exact .inr (.inr (.inr (.inl ⟨C, dx, ns, vs, rfl, m, ly⟩)))
  · exact .inr (.inr (.inr (.inr ⟨q, lq, rfl⟩)))
end
end Dl
namespace Dl
open PySem PySem.Spec L2
/-! ### a dict that is changed later is lent to one statement: to a loop over it -/
section
variable {cl : Nat → Addr} {kp : List Nat} {τ σ : L2.St} {F F' H H' : Hp} {fp : Nat → Addr → Prop} {env : Env} {S L : Addr → Prop} {K : PySem.W.Frag} {Eh : XK} {t : TS} {g : GS}
theorem Rs.self (I : Rs cl kp τ F H fp env σ) (kp' : List Nat) : Rs cl kp' σ F H fp env σ := ⟨I.len, I.slot, I.dis, I.sep, I.dom, I.le, fun _ _ => rfl, rfl⟩
theorem Rs.ret {kp' : List Nat} {σ' : L2.St} (I : Rs cl kp τ F H fp env σ) {env' : Env} {fp' : Nat → Addr → Prop} (I' : Rs cl kp' σ F' H' fp' env' σ') (s : ∀ j ∈ kp, j ∈ kp') : Rs cl kp τ F' H' fp' env' σ' := ⟨I'.len, I'.slot, I'.dis, I'.sep, I'.dom, I'.le, fun j m => (I'.pro j (s j m)).trans (I.pro j m), I'.tl.trans I.tl⟩
end
end Dl
namespace L2
open PySem PySem.Spec
/-! ### a list of whole numbers below another one; a text several times -/
variable {X : Cx}
theorem isL {h : Heap} {a : Addr} {its : Array Value} (p : PlainL h a its) : h.IsList a its := by
  obtain ⟨o, n, e, c, _, d⟩ := p
  exact ⟨o, e, c, n, d⟩
/-! d == {} -/
/-! a text, two to a thousand times -/
end L2
namespace Dl
open PySem PySem.Spec L2
section
variable {cl : Nat → Addr}
end
end Dl
namespace Dl
open PySem PySem.Spec L2 PyProof.Rows
/-! ### the text of data, where none is being made -/
section
variable {X : Cx}
end
/-! ### a def's promise where no text is being made -/
section
variable {X : Cx} {k : Nat} {f : Addr} {fd : FuncData} {ps : List Str} {sp : Sp} {E : XK} {x : Str} {p pos : Pos} {e : Expr} {es : List Expr} {t : TA} {ds : List Value} {dvs : List V}
end
section
variable {P : Program} {w : World} {K : PySem.W.Frag} {mg : Str → Option Value} {base : Heap}
end
end Dl
namespace Dl
open PySem PySem.Spec L2 PyProof.Rows
section
variable {P : Program} {w : World} {K : PySem.W.Frag} {mg : Str → Option Value} {base : Heap} {cl : Nat → Addr} {Eh : XK}
/-! ### defs where no text is being made -/
/-! ### the law is called where no text is being made -/
end
/-! ### the text of data -/
section
variable {cl : Nat → Addr} {K : PySem.W.Frag}
end
end Dl
namespace Dl
open PySem PySem.Spec L2
section
variable {cl : Nat → Addr} {kp : List Nat} {τ σ : L2.St} {F F' H H' : Hp} {fp : Nat → Addr → Prop} {env : Env} {S : Addr → Prop} {Eh : XK} {K : PySem.W.Frag}
/-! ### slices whose parts act -/
theorem tmp_pf {r0 : R} (h : r0.isPf = false) : r0.tmp.isPf = false := by
  cases r0 with
  | ow o => show (match o.vw with | some a => R.fz a | none => .ow o).isPf = false; cases o.vw <;> rfl
  | pf i f => cases h
  | _ => rfl
/-! ### a chain of which the ends act -/
/-! ### a, b = e, f: whatever they are -/
end
end Dl
namespace Dl
open PySem PySem.Spec L2
/-! ### z[::-1], a text -/
section
variable {X : Cx}
end
section
variable {cl : Nat → Addr} {kp : List Nat} {τ σ : L2.St} {F F' H H' : Hp} {fp : Nat → Addr → Prop} {env : Env} {S : Addr → Prop} {Eh : XK} {K : PySem.W.Frag}
/-! ### {k: v, ..} -/
/-! ### o(..), o an instance -/
end
end Dl
namespace Dl
open PySem PySem.Spec L2
/-! ### a field's list is changed: what is given leaves all cells as they are -/
section
variable (cl : Nat → Addr)
end
section
variable {cl : Nat → Addr} {kp : List Nat} {τ σ : L2.St} {F F' H H' : Hp} {fp : Nat → Addr → Prop} {env : Env} {S : Addr → Prop} {K : PySem.W.Frag} {Eh : XK}
end
end Dl
namespace Dl
open PySem PySem.Spec L2
/-! ### errors out of makers, operands, arguments, tests -/
section
variable {cl : Nat → Addr} {kp : List Nat} {τ σ : L2.St} {F F' H H' : Hp} {fp : Nat → Addr → Prop} {env : Env} {S : Addr → Prop} {K : PySem.W.Frag} {Eh : XK}
/-! operands -/
/-! arguments -/
/-! statements -/
end
end Dl
namespace Dl
open PySem PySem.Spec L2
/-! ## list.index -/
section
variable {cl : Nat → Addr} {K : PySem.W.Frag}
end
end Dl
namespace Dl
open PySem PySem.Spec L2
/-! ## d != {} -/
end Dl
namespace Dl
open PySem PySem.Spec L2
/-! ## del xs[i:] -/
end Dl
namespace Dl
open PySem PySem.Spec L2
section
variable {cl : Nat → Addr} {kp : List Nat} {τ σ : L2.St} {F F' H H' : Hp} {fp : Nat → Addr → Prop} {env : Env}
/-! ## d.get(k, None) -/
end
end Dl
namespace Dl
open PySem PySem.Spec L2
/-! ## a list is lent while a statement runs -/
section
variable {cl : Nat → Addr} {kp : List Nat} {τ σ : L2.St} {F F' H H' : Hp} {fp : Nat → Addr → Prop} {env : Env} {S L : Addr → Prop} {Eh : XK}
end
end Dl
namespace Dl
open PySem PySem.Spec L2 PyProof.Rows
/-! ## comprehensions of any number of clauses: what a turn does at its inside is a piece of its own -/
/-- from slots and heap, with the list D that grows, to where the rest holds -/
abbrev TB := L2.St → Hp → Addr → (Hp → Prop) → Prop
section
variable {Y : Cx} {tg iter : Expr} {ifs : List Expr} {g : TG} {tt : TT} {b : TB} {vs vb : List Nat} {D : Addr} {ins : Sem PySem.Fin → Sem PySem.Fin}
end
end Dl
namespace Dl
open PySem PySem.Spec L2 PyProof.Rows
section
variable {X : Cx} {tg iter elt : Expr} {ifs : List Expr} {rest : List Comprehension} {scope : Scope} {own : List (Str × Nat)} {pos : Pos} {wi : TI} {g : TG} {tt : TT} {b : TB} {vb : List Nat}
end
end Dl
namespace Dl
open PySem PySem.Spec L2 PyProof.Rows
section
variable {elt tg iter tg1 iter1 tg2 iter2 : Expr} {ifs ifs1 ifs2 : List Expr} {scope : Scope} {pos : Pos}
variable {X : Cx} {own : List (Str × Nat)} {vs1 vs2 : List Nat} {wi wi1 wi2 : TI} {g g1 g2 : TG} {tt tt1 tt2 : TT} {te : TE}
end
end Dl
namespace Dl
open PySem PySem.Spec L2
/-! ## the simulation: an inside, and a clause around it -/
section
variable {cl : Nat → Addr} {kp : List Nat}
end
end Dl
namespace L2
open PySem PySem.Spec PyProof.Rows
end L2
namespace Dl
open PySem PySem.Spec L2
/-! ## all(..) of a list of lists -/
end Dl
namespace Dg
open PySem PySem.Spec L2 Dl
def Db__law_take : GS :=
  (gSeq (gIfS (gB (gOp true fGt (gOp true fIxL (gV 0) (gK (.int 2))) (gK (.int 0)))) (gSeq (gAsg 2 (gOp true fMod (gUn fInt (gOp true fIxL (gV 0) (gK (.int 2)))) (gV 1)))
  (gSeq (gSetI true (gS true (gOp true fDiv (gOp true fIxL (gV 0) (gK (.int 2))) (gV 1))) (gV 0) (gK (.int 2)))
  (gRet 2 (gV 2)))) gSkip)
  (gSeq (gAsg 3 (gK (.int 0)))
  (gSeq (gIfS (gB (gOp true fLt (gOp true fIxL (gV 0) (gK (.int 1))) (gUn fLen (gOp true fIxL (gV 0) (gK (.int 0)))))) (gSeq (gAsg 3 (gOp true fIxL (gOp true fIxL (gV 0) (gK (.int 0))) (gOp true fIxL (gV 0) (gK (.int 1)))))
  (gSetI true (gS true (gOp true fAdd (gOp true fIxL (gV 0) (gK (.int 1))) (gK (.int 1)))) (gV 0) (gK (.int 1)))) gSkip)
  (gSeq (gIfS (gB (gOp true fGe (gV 3) (gOp true fPow (gK (.int 10)) (gK (.int 18))))) (gSeq (gSetI true (gS true (gOp true fDiv (gV 3) (gV 1))) (gV 0) (gK (.int 2)))
  (gRet 2 (gOp true fMod (gUn fInt (gV 3)) (gV 1)))) gSkip)
  (gSeq (gSetI true (gS true (gOp true fMod (gUn fInt (gOp true fAdd (gOp true fMul (gOp true fIxL (gV 0) (gK (.int 3))) (gK (.int 48271))) (gV 3))) (gK (.int 2147483647)))) (gV 0) (gK (.int 3)))
  (gRet 2 (gOp true fMod (gUn fInt (gOp true fDiv (gOp true fMod (gUn fInt (gOp true fMul (gOp true fIxL (gV 0) (gK (.int 3))) (gK (.int 69621)))) (gK (.int 2147483629))) (gK (.int 16)))) (gV 1))))))))
def D__law_take : GF := fnD [] 2 2 Db__law_take
def Dl__law_letters_1 : GS :=
  (gSeq (gAsg 5 (gCall D__law_take [] (gA (gV 0) (gA (gUn fLenS (gV 2)) gA0))))
  (gSeq (gDo (gPlc pAppend true (gV 3) (gCons (gS true (gOp true fIxS (gV 2) (gV 5))) gNil)))
  (gAsg 2 (gOp true fAddS (gSlS (gV 2) gP0 (gP1 (gV 5))) (gSlS (gV 2) (gP1 (gOp true fAdd (gV 5) (gK (.int 1)))) gP0)))))
def Db__law_letters : GS :=
  (gSeq (gAsg 2 (gK (.str "abcdefghijklmnopqrstuvwxyz")))
  (gSeq (gAsg 3 (gLst gNil))
  (gSeq (gFor (gItR1 (gV 1)) (hName 4) Dl__law_letters_1)
  (gRet 2 (gV 3)))))
def D__law_letters : GF := fnD [] 2 4 Db__law_letters
def Db__law_second : GS :=
  (gSeq (gIfS (gB (gOp true fEq (gV 0) (gK (.int 10)))) gNever gSkip)
  (gSeq (gIfS (gB (gOp true fEq (gV 0) (gK (.int 11)))) gNever gSkip)
  (gSeq (gIfS (gB (gOp true fEq (gV 0) (gK (.int 12)))) gNever gSkip)
  (gSeq (gIfS (gB (gOp true fEq (gV 0) (gK (.int 13)))) gNever gSkip)
  (gSeq (gIfS (gB (gOp true fEq (gV 0) (gK (.int 14)))) gNever gSkip)
  (gSeq (gIfS (gB (gOp true fEq (gV 0) (gK (.int 15)))) gNever gSkip)
  (gSeq (gIfS (gB (gOp true fEq (gV 0) (gK (.int 16)))) gNever gSkip)
  (gSeq (gIfS (gB (gOp true fEq (gV 0) (gK (.int 17)))) gNever gSkip)
  gNever))))))))
def D__law_second : GF := fnD [] 3 0 Db__law_second
def Db__law_first : GS :=
  (gSeq (gIfS (gB (gOp true fEq (gV 0) (gK (.int 0)))) gNever gSkip)
  (gSeq (gIfS (gB (gOp true fEq (gV 0) (gK (.int 1)))) gNever gSkip)
  (gSeq (gIfS (gB (gOp true fEq (gV 0) (gK (.int 2)))) gNever gSkip)
  (gSeq (gIfS (gB (gOp true fEq (gV 0) (gK (.int 3)))) gNever gSkip)
  (gSeq (gIfS (gB (gOp true fEq (gV 0) (gK (.int 4)))) gNever gSkip)
  (gSeq (gIfS (gB (gOp true fEq (gV 0) (gK (.int 5)))) gNever gSkip)
  (gSeq (gIfS (gB (gOp true fEq (gV 0) (gK (.int 6)))) gNever gSkip)
  (gSeq (gIfS (gB (gOp true fEq (gV 0) (gK (.int 7)))) gNever gSkip)
  (gSeq (gIfS (gB (gOp true fEq (gV 0) (gK (.int 8)))) gNever gSkip)
  gNever)))))))))
def D__law_first : GF := fnD [] 4 0 Db__law_first
noncomputable def Xb__law_first : GS :=
  (gSeq (gIfS (gB (gOp true fEq (gV 0) (gK (.int 0)))) (gRaise 0 (gA (gV 1) gA0)) gSkip)
  (gSeq (gIfS (gB (gOp true fEq (gV 0) (gK (.int 1)))) (gRaise 1 (gA (gV 1) gA0)) gSkip)
  (gSeq (gIfS (gB (gOp true fEq (gV 0) (gK (.int 2)))) (gRaise 2 (gA (gV 1) gA0)) gSkip)
  (gSeq (gIfS (gB (gOp true fEq (gV 0) (gK (.int 3)))) (gRaise 3 (gA (gV 1) (gA (gV 2) gA0))) gSkip)
  (gSeq (gIfS (gB (gOp true fEq (gV 0) (gK (.int 4)))) (gRaise 4 (gA (gV 1) gA0)) gSkip)
  (gSeq (gIfS (gB (gOp true fEq (gV 0) (gK (.int 5)))) (gRaise 5 (gA (gV 3) gA0)) gSkip)
  (gSeq (gIfS (gB (gOp true fEq (gV 0) (gK (.int 6)))) (gRaise 6 (gA (gV 3) gA0)) gSkip)
  (gSeq (gIfS (gB (gOp true fEq (gV 0) (gK (.int 7)))) (gRaise 7 (gA (gV 3) (gA (gV 2) gA0))) gSkip)
  (gSeq (gIfS (gB (gOp true fEq (gV 0) (gK (.int 8)))) (gRaise 8 (gA (gV 1) gA0)) gSkip)
  (gRaise 9 (gA (gV 1) gA0)))))))))))
noncomputable def X__law_first : BF := fnB [] 4 0 Xb__law_first
noncomputable def Dq__law_early : GS :=
  (gOr (gDo (gCall D__law_first [] (gA (gV 0) (gA (gV 1) (gA (gV 2) (gA (gV 3) gA0)))))) (bCall X__law_first [] (gA (gV 0) (gA (gV 1) (gA (gV 2) (gA (gV 3) gA0))))))
noncomputable def Dz__law_early : GS :=
  (gRet 4 (gLst gNil))
def Tb__law_early : Nat → Option (List A → List A) :=
  (fun c => if c = 0 then some (fun xs => .int 0 :: xs.getD 0 .non :: .bl true :: []) else if c = 1 then some (fun xs => .int 1 :: xs.getD 0 .non :: .bl true :: []) else if c = 2 then some (fun xs => .int 2 :: xs.getD 0 .non :: .bl true :: []) else if c = 3 then some (fun xs => .int 3 :: xs.getD 0 .non :: xs.getD 1 .non :: .bl true :: []) else if c = 4 then some (fun xs => .int 4 :: xs.getD 0 .non :: .bl true :: []) else if c = 5 then some (fun xs => .int 5 :: xs.getD 0 .non :: .bl true :: []) else if c = 6 then some (fun xs => .int 6 :: xs.getD 0 .non :: .bl true :: []) else if c = 7 then some (fun xs => .int 7 :: xs.getD 0 .non :: xs.getD 1 .non :: .bl true :: []) else if c = 8 then some (fun xs => .int 8 :: xs.getD 0 .non :: .bl true :: []) else if c = 9 then some (fun xs => .int 9 :: xs.getD 0 .non :: .bl true :: []) else none)
noncomputable def D__law_early : GF := fnT [] 4 1 Dq__law_early Dz__law_early Tb__law_early
end Dg
/-! x in a list, by an own __eq__ -/
namespace Gil
open PySem PySem.SeqAt GQ
open AutoSeq1 (wpAny_loadPart')
open MeetsSeq MeetsSeq2 MeetsSeq3 SeqRoads2
section
variable {prog : Program} {w : World} {A : Around} {R : Result → Shared → Prop}
end
section
variable {prog : Program} {w : World} {A : Around} {E : Value → Shared → Prop} {s : Shared}
end
end Gil
namespace L2
open PySem PySem.Spec PyProof.Rows
section
variable {X : Cx} {CX : CXT} {k : Nat} {C f : Addr} {fd : FuncData} {ps : List Str} {sp : Sp} {E : XK}
end
end L2
namespace Dl
open PySem PySem.Spec L2
/-! ## plain trees stand in one way only -/
mutual
def A.plain : A → Bool
  | .non => true | .bl _ => true | .int _ => true | .str _ => true
  | .lst xs => A.plainL xs | .tup xs => A.plainL xs
  | .dK _ _ => false | .dT _ _ => false | .ins _ _ _ => false | .kls _ => false
def A.plainL : List A → Bool
  | [] => true
  | x :: xs => A.plain x && A.plainL xs
end
section
variable {cl : Nat → Addr} {F : Hp}
mutual
theorem Rp.uniq : ∀ {a b : A} {v : V}, A.plain a = true → A.plain b = true → Rp cl F a v → Rp cl F b v → a = b
  | .non, b, v, _, pb, h, k => by cases (show v = .non from h); cases b <;> first | rfl | (cases pb; done) | (cases k; done) | (obtain ⟨_, _, e, _⟩ := k; cases e)
  | .bl i, b, v, _, pb, h, k => by cases (show v = .bl i from h); cases b <;> first | (cases pb; done) | (cases k; rfl) | (cases k; done) | (obtain ⟨_, _, e, _⟩ := k; cases e)
  | .int i, b, v, _, pb, h, k => by cases (show v = .int i from h); cases b <;> first | (cases pb; done) | (cases k; rfl) | (cases k; done) | (obtain ⟨_, _, e, _⟩ := k; cases e)
  | .str i, b, v, _, pb, h, k => by cases (show v = .str i from h); cases b <;> first | (cases pb; done) | (cases k; rfl) | (cases k; done) | (obtain ⟨_, _, e, _⟩ := k; cases e)
  | .lst xs, b, v, pa, pb, h, k => by
    obtain ⟨p, vs, rfl, q, r⟩ := h
    cases b with
    | lst ys =>
      obtain ⟨p', vs', e, q', r'⟩ := k
      cases e
      rw [q] at q'
      cases q'
      rw [RpL.uniq (show A.plainL xs = true from pa) (show A.plainL ys = true from pb) r r']
    | tup ys =>
      obtain ⟨p', vs', e, q', r'⟩ := k
      cases e
      rw [q] at q'
      cases q'
    | non => cases k
    | bl _ => cases k
    | int _ => cases k
    | str _ => cases k
    | _ => cases pb
  | .tup xs, b, v, pa, pb, h, k => by
    obtain ⟨p, vs, rfl, q, r⟩ := h
    cases b with
    | tup ys =>
      obtain ⟨p', vs', e, q', r'⟩ := k
      cases e
      rw [q] at q'
      cases q'
      rw [RpL.uniq (show A.plainL xs = true from pa) (show A.plainL ys = true from pb) r r']
    | lst ys =>
      obtain ⟨p', vs', e, q', r'⟩ := k
      cases e
      rw [q] at q'
      cases q'
    | non => cases k
    | bl _ => cases k
    | int _ => cases k
    | str _ => cases k
    | _ => cases pb
  | .dK _ _, _, _, pa, _, _, _ => by cases pa
  | .dT _ _, _, _, pa, _, _, _ => by cases pa
  | .ins _ _ _, _, _, pa, _, _, _ => by cases pa
  | .kls _, _, _, pa, _, _, _ => by cases pa
theorem RpL.uniq : ∀ {xs ys : List A} {vs : List V}, A.plainL xs = true → A.plainL ys = true → RpL cl F xs vs → RpL cl F ys vs → xs = ys
  | [], [], _, _, _, _, _ => rfl
  | [], _ :: _, _, _, _, h, k => by cases h; obtain ⟨_, _, e, _⟩ := k; cases e
  | _ :: _, [], _, _, _, h, k => by cases k; obtain ⟨_, _, e, _⟩ := h; cases e
  | x :: xs, y :: ys, vs, pa, pb, h, k => by
    obtain ⟨v, r, rfl, q, z⟩ := h
    obtain ⟨v', r', e, q', z'⟩ := k
    cases e
    have pa : (A.plain x && A.plainL xs) = true := pa
    have pb : (A.plain y && A.plainL ys) = true := pb
    rw [Bool.and_eq_true] at pa pb
    rw [Rp.uniq pa.1 pb.1 q q', RpL.uniq pa.2 pb.2 z z']
end
end
section
variable {cl : Nat → Addr} {kp : List Nat} {τ σ : L2.St} {F F' H H' : Hp} {fp : Nat → Addr → Prop} {env : Env}
end
end Dl
/-! a op b op' c op'' d -/
namespace L2
open PySem PySem.Spec PyProof.Rows
section
variable {X : Cx} {a b c d : Expr} {pos : Pos} {ta tb tc td : TE}
end
end L2
namespace Dl
open PySem PySem.Spec L2
/-! ## chains of three comparisons -/
section
variable {cl : Nat → Addr} {kp : List Nat} {τ σ : L2.St} {F F' H H' : Hp} {fp : Nat → Addr → Prop} {env : Env}
theorem Rv.both {b : A} {y : V} (sF : Same F F') (sH : Same H H') (ry : Rv cl F H b y) : Rv cl F' H' b y := by
  cases b with
  | lst xs => obtain ⟨p, vs, e, q, r⟩ := ry; exact ⟨p, vs, e, sH _ _ q, RpL.same sF r⟩
  | tup xs => exact Rp.same sF (a := .tup xs) ry
  | dK ks xs => obtain ⟨p, vs, e, q, z, r⟩ := ry; exact ⟨p, vs, e, Rd.same sH q, z, RpL.same sF r⟩
  | dT ks xs => obtain ⟨p, vs, e, q, z, r⟩ := ry; exact ⟨p, vs, e, Rd.same sH q, z, RpL.same sF r⟩
  | ins c ns xs => exact Rp.same sH ry
  | _ => exact ry
end
end Dl
namespace Dg
open PySem PySem.Spec L2 Dl
end Dg
namespace Dl
open PySem PySem.Spec L2
/-! ## a call with keywords that may let an error out -/
section
variable {cl : Nat → Addr} {kp : List Nat} {τ σ : L2.St} {F F' H H' : Hp} {fp : Nat → Addr → Prop} {env : Env} {Eh : XK}
end
end Dl
namespace Dl
open PySem PySem.Spec L2
/-! ## a walk that is left undefined: nothing is claimed of it -/
section
variable {cl : Nat → Addr} {kp : List Nat}
end
end Dl
namespace Dl
open PySem PySem.Spec L2
/-! ## a slot that is settled before a walk over it -/
section
variable {cl : Nat → Addr} {kp : List Nat} {Eh : XK}
end
end Dl
namespace Dl
open PySem PySem.Spec L2
/-! ## rows = [[] for _ in range(n)]; for a, b in pairs: check; rows[a].append(b) -/
section
variable {cl : Nat → Addr} {kp : List Nat} {τ σ : L2.St} {F F' H H' H0 : Hp} {fp : Nat → Addr → Prop} {env : Env} {V0 V1 : Addr → Prop} {Eh : XK} {p : Addr} {R : List (List A)} {K : PySem.W.Frag}
/-- the outer list at p, the inner ones; all of them new since H0 -/
def Rws (cl : Nat → Addr) (H0 F H : Hp) (V0 : Addr → Prop) (p : Addr) (R : List (List A)) : Prop :=
  ∃ qs : List Addr, H p = some (.lst (qs.map V.ref)) ∧ qs.length = R.length ∧ (p :: qs).Nodup ∧ (∀ x ∈ p :: qs, F x = none ∧ ¬ V0 x ∧ H0 x = none) ∧ ∀ (j : Nat) (q : Addr) (r : List A), qs[j]? = some q → R[j]? = some r → ∃ vs, H q = some (.lst vs) ∧ RpL cl F r vs
theorem Rws.go (h : Rws cl H0 F H V0 p R) (g : Go F H V0 F' H' V1) : Rws cl H0 F' H' V1 p R := by
  obtain ⟨qs, h1, h2, h3, h4, h5⟩ := h
  have two : ∀ x ∈ p :: qs, ∃ vs, H x = some (.lst vs) := fun x m => by
    rcases List.mem_cons.mp m with rfl | m
    · exact ⟨_, h1⟩
    · obtain ⟨j, hj, e⟩ := List.mem_iff_getElem.mp m
      obtain ⟨vs, hv, _⟩ := h5 j x R[j] (by rw [List.getElem?_eq_getElem hj, e]) (List.getElem?_eq_getElem (by omega))
      exact ⟨vs, hv⟩
  have keep : ∀ x ∈ p :: qs, ∀ o, H x = some o → H' x = some o := fun x m o e => g.keep x o (h4 x m).2.1 e
  refine ⟨qs, keep p List.mem_cons_self _ h1, h2, h3, fun x m => ?_, fun j q r e1 e2 => ?_⟩
  · obtain ⟨a, b, c⟩ := h4 x m
    obtain ⟨vs, hv⟩ := two x m
    refine ⟨?_, fun z => ?_, c⟩
    · cases e : F' x with
      | none => rfl
      | some o =>
        rcases g.new x (by rw [e]; exact fun z => nomatch z) a with z | z | ⟨vs', z⟩
        · rw [hv] at z; cases z
        · exact (b z).elim
        · rw [hv] at z; cases z
    · rcases g.fpn x z with z | z
      · exact b z
      · rw [hv] at z; cases z
  · obtain ⟨vs, hv, hr⟩ := h5 j q r e1 e2
    exact ⟨vs, keep q (List.mem_cons_of_mem _ (List.mem_of_getElem? e1)) _ hv, RpL.same g.sF hr⟩
theorem Rws.app (h : Rws cl H0 F H V0 p R) {i : Nat} {r : List A} {b : A} {v : V} (hr : R[i]? = some r) (hb : Rp cl F b v) :
    ∃ (q : Addr) (qs : List Addr) (vs : List V), H p = some (.lst (qs.map V.ref)) ∧ qs[i]? = some q ∧ H q = some (.lst vs) ∧ vs.length = r.length ∧ F q = none ∧ ¬ V0 q ∧ H0 q = none ∧ Rws cl H0 F (upd H q (.lst (vs ++ [v]))) V0 p (R.set i (r ++ [b])) := by
  obtain ⟨qs, h1, h2, h3, h4, h5⟩ := h
  have hi : i < qs.length := by rw [h2]; exact (List.getElem?_eq_some_iff.mp hr).1
  have eq : qs[i]? = some qs[i] := List.getElem?_eq_getElem hi
  obtain ⟨vs, hv, hvs⟩ := h5 i _ r eq hr
  have mq : qs[i] ∈ qs := List.getElem_mem hi
  obtain ⟨a1, a2, a3⟩ := h4 _ (List.mem_cons_of_mem _ mq)
  obtain ⟨n1, n2⟩ := List.nodup_cons.mp h3
  have np : p ≠ qs[i] := fun z => n1 (by rw [z]; exact mq)
  refine ⟨qs[i], qs, vs, h1, eq, hv, hvs.length, a1, a2, a3, qs, by rw [upd_ne np]; exact h1, by rw [List.length_set]; exact h2, h3, h4, fun j q' r' e1 e2 => ?_⟩
  by_cases c : j = i
  · subst c
    rw [eq] at e1
    cases e1
    rw [List.getElem?_set_self (by rw [← h2]; exact hi)] at e2
    cases e2
    exact ⟨_, upd_same, hvs.app (RpL.one hb)⟩
  · rw [List.getElem?_set_ne (fun z => c z.symm)] at e2
    obtain ⟨vs', hv', hr'⟩ := h5 j q' r' e1 e2
    have hj := (List.getElem?_eq_some_iff.mp e1).1
    have ne : q' ≠ qs[i] := fun z => c ((List.getElem?_inj hj n2).mp (by rw [e1, z, eq]))
    exact ⟨vs', by rw [upd_ne ne]; exact hv', hr'⟩
end
end Dl
namespace Eb
open PySem PySem.Spec PyProof.Rows L2
/-! ## except the base class as n: return isinstance(n, ValueError) -/
def tIsV (K : PySem.W.Frag) (r : Errs) (a : Addr) (cls : Value) (d : Option Addr) (i : Nat) : TE := fun σ H Q => σ[i]? = some (some (V.ref a)) ∧ ∃ (D : Addr), cls = .ref D ∧ KitsG K r D ∧ DkAt H d ∧ Q (.bl true) H
section
variable {X : Cx} {r : Errs} {a : Addr} {oe : Obj} {cls : Value} {d : Option Addr} {pn : List (Addr × Obj)} {q q2 q3 q4 : Pos} {x : Str}
theorem pe_isV (i : Nat) (hz : L2N.Zn cls d oe) (hf : ∃ vs, oe.data = .fields vs) (hi : X.mg "isinstance" = none) (hvn : X.mg "ValueError" = none)
    (hg : Gl (X.suite a ((a, oe) :: pn)) "isinstance" := by rfl) (hg2 : Gl (X.suite a ((a, oe) :: pn)) "ValueError" := by rfl) (hN : X.N[i]? = some x := by rfl) (hv : Vis X.env.scope x := by first | exact Or.inl rfl | exact Or.inr (Or.inl rfl)) (n1 : (x == ("__debug__" : Str)) = false := by decide) (n2 : (x == ("__classdict__" : Str)) = false := by decide)
    (he : starEach [.Name x q2, .Name "ValueError" q4] X.env = (false, eval (.Name x q2) X.env) :: starEach [.Name "ValueError" q4] X.env := by rfl)
    (he2 : starEach [.Name "ValueError" q4] X.env = (false, eval (.Name "ValueError" q4) X.env) :: starEach [] X.env := by rfl) (hpl : (backTo q3 (starEach [.Name "ValueError" q4] X.env)).any (·.1) = false := by rfl) :
    PE (X.suite a ((a, oe) :: pn)) (.Call (.Name "isinstance" q) [.Name x q2, .Name "ValueError" q4] [] q3) (tIsV X.K r a cls d i) := by
  have R := pe_callB (X := X.suite a ((a, oe) :: pn)) (p := q) (pos := q3) (call_isEx (p := (a, oe)) List.mem_cons_self) hg hi (by decide +kernel) (pa_cons (e := .Name x q2) (es := [.Name "ValueError" q4]) (pe_var (X := X.suite a ((a, oe) :: pn)) (i := i) hN hv n1 n2) (pa_cons (pe_bltn (X := X.suite a ((a, oe) :: pn)) (v := .ty "ValueError") (u := .type "ValueError") hg2 hvn (by decide +kernel) rfl) pa_nil he2) he) (by decide) (by decide) he hpl
  refine ⟨fun pins s σ H Q I h => R.run pins s σ H Q I ?_⟩
  have ⟨h1, D, ec, kg, hdd, h2⟩ := h
  refine ⟨_, h1, ?_⟩
  refine ⟨D, .ty "ValueError", .type "ValueError", true, d, rfl, fun u hu => ?_, kg.x, ?_, hf, hdd, kg.v, h2⟩
  · exact hu
  · rw [← ec]
    exact hz.zc
end
end Eb
namespace Dl
open PySem PySem.Spec L2
/-- a clause that gives a truth, whatever the error -/
def HDB (cl : Nat → Addr) (K : PySem.W.Frag) (n i : Nat) (tab : Nat → Bool) (l : L2N.Clauses) : Prop :=
  ∀ ⦃Wout : WX⦄ ⦃D : Ends⦄ ⦃c : Nat⦄ ⦃σ : L2.St⦄ ⦃H : Hp⦄ ⦃dd : Option Addr⦄, tab c = true → σ.length = n → i < n → DkAt H dd → (D.rt (.bl true) H) → L2N.wClauses K i Wout D l (.ref (cl (100 + c))) dd σ H
theorem hdb_base {cl : Nat → Addr} {K : PySem.W.Frag} {n i : Nat} {r : Eb.Errs} {tab : Nat → Bool} (hit : ∀ c, tab c = true → PySem.W.exmOne K (.ref (cl (100 + c))) (.ref (cl 99)) = some true) (kg : ∀ c, tab c = true → Eb.KitsG K r (cl (100 + c))) :
    HDB cl K n i tab [(.ref (cl 99), fun a cls d => tRet (Eb.tIsV K r a cls d i))] := by
  intro Wout D c σ H dd ht ln hi hd k
  refine ⟨true, hit c ht, ?_⟩
  rw [if_pos rfl]
  exact fun a _ => ⟨by rw [List.getElem?_set_self (by omega)], _, rfl, kg c ht, hd, k⟩
def fnTB (ra : List Nat) (n m : Nat) (g gt : GS) (tab : Nat → Bool) : GF := fun os =>
  if os.length = n ∧ okRa ra os = true then (g (os ++ List.replicate m .un)).bind fun p => match p.1 with
    | .nx => (gt p.2).bind fun q => match q.1 with
      | .rt o => some (o, finO ra 0 os q.2)
      | _ => none
    | .rt o => some (o, finO ra 0 os p.2)
    | .er e => if tab e.c = true then some (.fl (.fz (.bl true)), finO ra 0 os p.2) else none
    | _ => none
  else none
section
variable {cl : Nat → Addr} {kp : List Nat} {τ σ : L2.St} {F F' H H' : Hp} {fp : Nat → Addr → Prop} {env : Env} {S : Addr → Prop}
theorem body_okTB {N : List Str} {vs : List V} {ra kp : List Nat} {m : Nat} {g gt : GS} {tab : Nat → Bool} {tb : WX → TS} {tt : TS} {Q : VK} {n i : Nat} {E Et : XK} {l : L2N.Clauses} {Wout : WX} {K : PySem.W.Frag} (hN : N.length = n + m) (hi : i < N.length) (hk : ∀ i, i < n → i ∉ ra → i ∈ kp)
    (hb : ∀ W, SS cl kp (eAll N.length W) (tb W) g) (ht : SS cl kp Et tt gt) (hd : HDB cl K N.length i tab l) (sp : spD cl (fnTB ra n m g gt tab) vs H Q E) :
    tSeq (fun D σ H => tb (L2N.wClauses K i Wout D l) D σ H) tt { nx := fun _ H' => Q .non H', rt := Q } (L2.start N vs) H := by
  obtain ⟨F, fp, os, res, os', I, he, k⟩ := sp
  unfold fnTB at he
  split at he
  case isFalse => cases he
  rename_i c
  obtain ⟨l0, ok⟩ := c
  obtain ⟨⟨f, env1⟩, hg, he⟩ := Option.bind_eq_some_iff.mp he
  have ln : os.length = vs.length := by have := I.len; simpa using this
  have I0 := I.start m (by omega : N.length = vs.length + m) kp
  have go0 : Go F H (U fp) F H (U fun i p => i < vs.length ∧ fp i p) := Go.refl.mono fun p ⟨i, _, z⟩ => ⟨i, z⟩
  have sub : ∀ {fp' : Nat → Addr → Prop} (p : Addr), U (fun i p => i < vs.length ∧ i ∉ ra ∧ fp' i p) p → U fp' p := fun p ⟨i, _, _, z⟩ => ⟨i, z⟩
  have fin : ∀ {F' H' : Hp} {fp' : Nat → Addr → Prop} {env' : Env} {σ' : L2.St}, Rs cl kp (L2.start N vs) F' H' fp' env' σ' → Same F F' → Rs cl [] (vs.map some) F' H' (fun i p => i < vs.length ∧ i ∉ ra ∧ fp' i p) (finO ra 0 os env') (vs.map some) :=
    fun I' s => I.fin ok (fun i hi hr => hk i (by omega) hr) (by omega) I' s
  refine hb _ I0 hg ?_
  cases f with
  | nx =>
    obtain ⟨⟨f2, env2⟩, hg2, he⟩ := Option.bind_eq_some_iff.mp he
    intro F1 H1 fp1 σ1 I1 go1
    refine ht I1 hg2 ?_
    cases f2 with
    | rt o =>
      cases he
      intro F' H' fp' σ' S v I' go rr nS
      exact k F' H' _ S v (fin I' (go1.sF.trans go.sF)) (((go0.trans go1).trans go).mono fun p z => z.imp (sub p) id) rr fun p s => ⟨(nS p s).1, (nS p s).2.1, fun z => (nS p s).2.2 (sub p z)⟩
    | _ => cases he
  | rt o =>
    cases he
    intro F' H' fp' σ' S v I' go rr nS
    exact k F' H' _ S v (fin I' go.sF) ((go0.trans go).mono fun p z => z.imp (sub p) id) rr fun p s => ⟨(nS p s).1, (nS p s).2.1, fun z => (nS p s).2.2 (sub p z)⟩
  | er e =>
    dsimp only at he
    split at he
    case isFalse => cases he
    rename_i hh
    cases he
    intro F' H' fp' σ' S cls d I' go ea nS σ2 hl
    obtain ⟨rfl, ws, hdd, r, le⟩ := ea
    refine hd hh hl hi hdd.dAt.dk ?_
    have J := fin I' go.sF
    have G := go0.trans go
    exact k F' H' _ (fun _ => False) (.bl true) J (G.mono fun p z => z.elim (fun z => .inl (sub p z)) False.elim) rfl fun p z => z.elim
  | bk => cases he
  | ct => cases he
end
section
variable {P : Program} {w : World} {K : PySem.W.Frag} {mg : Str → Option Value} {base : Heap} {cl : Nat → Addr}
theorem fnTB_len {ra : List Nat} {n m : Nat} {g gt : GS} {tab : Nat → Bool} {os : List O} {r : O × List O} (h : fnTB ra n m g gt tab os = some r) : os.length = n := by
  unfold fnTB at h
  split at h
  · rename_i c; exact c.1
  · cases h
theorem _root_.L2.Fun.okTryB {x qual : Str} {st : Stmt} {f : Addr} {fd : FuncData} {N ps : List Str} {k : Nat} (F : Fun K x qual st f fd) (S : FnScope N ps (defScope st)) (ra kp : List Nat) (m i : Nat) (g gt : GS) (tab : Nat → Bool)
    (hN : N.length = ps.length + m) (hi : i < N.length) (hk : ((List.range ps.length).all fun i => ra.contains i || kp.contains i) = true)
    (body : ∀ (cdv : Value) (A : Around) (outer : List PySem.Env) (s : Shared) (H : Hp) (E : XK), Room k (A.deeper (PyProof.Rows.envOfC qual (defScope st) s.heap.objs.size f cdv)) →
      ∃ (tb : WX → TS) (l : L2N.Clauses) (Wout : WX) (tt : TS), PSs (cxOf CX0 P w K mg base N qual (defScope st) f cdv A outer s H E).nox (defBody st) (tSeq (fun D σ H => tb (L2N.wClauses K i Wout D l) D σ H) tt) ∧ (∀ W, SS cl kp (eAll N.length W) (tb W) g) ∧ SS cl kp E tt gt ∧ HDB cl K N.length i tab l) :
    FnOk P w K mg base CX0 (k + 1) f fd ps (spD cl (fnTB ra ps.length m g gt tab)) := by
  refine F.ok S (fun vs H Q E h => ?_) (fun cdv A outer s H vs Q E hr h => ?_)
  · obtain ⟨F, fp, os, res, os', I, e, _⟩ := h
    have l := fnTB_len e
    have := I.len
    rw [List.length_map] at this
    omega
  · obtain ⟨tb, l, Wout, tt, hp, hb, ht, hd⟩ := body cdv A outer s H E hr
    refine ⟨_, hp, body_okTB hN hi (fun i hi hr => ?_) hb ht hd h⟩
    have := List.all_eq_true.mp hk i (List.mem_range.mpr hi)
    rcases Bool.or_eq_true_iff.mp this with z | z
    · exact (hr (by simpa using z)).elim
    · simpa using z
end
end Dl
namespace Eb
open PySem PySem.Spec PyProof.Rows L2
/-! ## an error without attributes: it has no dict -/
/-- C's __init__ leaves all as it is -/
def spEr0 (C : Addr) : Sp := fun vs H Q _ => ∃ a : Addr, vs = [.ref a] ∧ H a = some (exo a C none) ∧ Q .non H
structure Er0 (P : Program) (K : PySem.W.Frag) (mg : Str → Option Value) (x : Str) (C : Addr) : Prop where
  T : OexC K C
  gC : mg x = some (.ref C)
  init : ∃ fI fd, PySem.W.findIn K (.ref C) "__init__" = some (some (.ref fI)) ∧ PySem.W.typeIn K (.ref fI) = some (.type "function") ∧ Binds K fd ["self"] [] ∧ ∀ (w : World) (base : Heap), FnOk P w K mg base CX0 1 fI fd ["self"] (spEr0 C)
structure ErX0 (P : Program) (K : PySem.W.Frag) (mg : Str → Option Value) (r : Errs) (x : Str) (C : Addr) : Prop where
  er : Er0 P K mg x C
  kit : KitsG K r C
theorem mk_end0n {X : Cx} {pins : List (Addr × Obj)} {σ : L2.St} {H1 : Hp} {hp hp2 h2 : Heap} {g1 g2 : Array GenState} {d1 d2 : Drawn} {t1 t2 : Nat} {os1 os2 : OsState} {a C : Addr} (I1 : Inv X pins σ H1 ⟨hp, g1, d1, t1, os1⟩)
    (ha : hp.objs.size ≤ a) (k : ∀ b o, hp.get? b = some o → hp2.get? b = some o) (un : Un (frs X.stack) [] (upd H1 a (exo a C none)) (upd H1 a (exo a C none)) hp2 h2) (hok : HOk X.prog X.w (upd H1 a (exo a C none)) h2) (ho : os2 = os1) (hb : AllBare g2) :
    ∃ (t0 : Addr) (G : Heap), Inv X pins σ H1 ⟨G, g2, d2, t2, os2⟩ ∧ (∀ b o, G.get? b = some o → h2.get? b = some o) ∧ G.get? a = none ∧
      h2.get? a = some ({ cls := .ref C, dict := none, data := .fields #[.ref t0, .none, .none, .none, .bool false, .none] } : Obj) ∧ H1 a = none := by
  have ea : upd H1 a (exo a C none) a = some (exo a C none) := upd_same
  obtain ⟨t0, hoe⟩ := exo_at hok ea
  have hn : H1 a = none := I1.hok.fresh ha
  obtain ⟨G, g1', g2'⟩ := restrict h2 fun b => decide (b ≠ a)
  have gk : ∀ b, b ≠ a → G.get? b = h2.get? b := fun b hb => g1' b (decide_eq_true hb)
  have ge : G.get? a = none := g2' a (by simp)
  have nha : ∀ {b : Addr} {o : Obj}, hp.get? b = some o → b ≠ a := fun {b o} z => Nat.ne_of_lt (Nat.lt_of_lt_of_le (Heap.lt_size z) ha)
  have up : ∀ {b : Addr}, b ≠ a → H1 b = none → upd H1 a (exo a C none) b = none := fun {b} hb n => by rw [upd_ne hb]; exact n
  have U : Un (frs X.stack) [] H1 H1 hp G := {
    keep := fun b o z n hf hx => by
      rw [gk b (nha z)]
      exact un.keep b o (k b o z) (up (nha z) n) hf hx
    slot := fun b o z n hf hx => by
      rw [gk b (nha z)]
      exact un.slot b o (k b o z) (up (nha z) n) hf hx
    free := fun b o z n hx => n
    there := fun b o z hx => by
      rw [gk b (nha z)]
      exact un.there b o (k b o z) hx
    tups := fun b xs z => z
    frzs := fun b o v z => z
    tbls := fun b ps z => ⟨#[], by rw [Array.append_empty]; exact z⟩ }
  have hok3 : HOk X.prog X.w H1 G := fun b o z => by
    have hba : b ≠ a := ne_of_none z hn
    have z' : upd H1 a (exo a C none) b = some o := by rw [upd_ne hba]; exact z
    have noa : ∀ {c : Addr}, upd H1 a (exo a C none) c = some (.own b) → c ≠ a := fun {c} hc => at_ne ea hc exo_own
    exact (hok b o z').stay (fun c v hc y => by
        have hca : c ≠ a := by
          rcases hc with hc | hc
          · rw [hc]
            exact hba
          · exact noa hc
        rw [gk c hca]
        exact y)
      (fun c hc => by
        have := noa hc
        rw [upd_ne this] at hc
        exact hc) (fun c xs hc => by
        have := at_ne ea hc exo_tup
        rw [upd_ne this] at hc
        exact hc)
  have J : Inv X pins σ H1 ⟨G, g2, d2, t2, os2⟩ := I1.call' (ch := []) ho U hok3 hb (fun b z => absurd z (by simp))
  refine ⟨t0, G, J, fun b o z => ?_, ge, hoe, hn⟩
  by_cases hba : b = a
  · rw [hba, ge] at z
    cases z
  · exact (gk b hba).symm.trans z
def tMkEr0 (C : Addr) : L2.St → Hp → XK → Prop := fun _ H Q => Q (.ref C) none H
theorem pmk_er0 {X : Cx} {x : Str} {C : Addr} {p pos : Pos} (R : Er0 X.prog X.K X.mg x C) (hr : Room 2 X.A) (hg : Gl X x) (hdb : (x == ("__debug__" : Str)) = false) :
    L2N.PMk X (.Call (.Name x p) [] [] pos) (tMkEr0 C) := by
  have ⟨fI, fd, iC, tI, hb, F⟩ := R.init
  have ⟨nm, q0, N, bs, bm, sn, sub, ab, col, dd, k0, k1, k2, k3, k5, hC, hbm⟩ := R.T.cls
  intro pins s σ H Q I h
  refine wpAny_Call_Name_kw (ld_glob I hg R.gC ?_ hdb)
  refine PySem.W.callWith_K0 I.kIn R.T.kC ?_
  have h : Q (.ref C) none H := h
  obtain ⟨us, hus⟩ : ∃ us : List Value, us = [] := ⟨_, rfl⟩
  have I1 := I
  change wpAny _ _ (call (.ref C) ([] : List Value)) _ _ _
  rw [← hus]
  obtain ⟨h1, g, dr, tk, os⟩ := s
  -- the error's object e behind its args
  have big : h1.objs.size ≤ h1.objs.size + 1 := Nat.le_succ _
  generalize ee : h1.objs.size + 1 = e1 at big
  have none1 : H e1 = none := I1.hok.fresh big
  have keep : ∀ b o, h1.get? b = some o → ((h1.push (PySem.W.kdv_tup us)).push (PySem.HandSPX.excO C h1.objs.size)).get? b = some o := fun b o z => Heap.get?_push_of_some _ (Heap.get?_push_of_some _ z)
  have there : ((h1.push (PySem.W.kdv_tup us)).push (PySem.HandSPX.excO C h1.objs.size)).get? e1 = some (PySem.HandSPX.excO C h1.objs.size) := by rw [← ee]; heap_get
  have I2 : Inv X pins σ (upd H e1 (exo e1 C none)) ⟨(h1.push (PySem.W.kdv_tup us)).push (PySem.HandSPX.excO C h1.objs.size), g, dr, tk, os⟩ := I1.laid (t' := tk) keep big (exo_ok there)
  have few : us.length ≤ sizeLine := by rw [hus]; decide
  have want : spEr0 C [.ref e1] (upd H e1 (exo e1 C none)) (fun v H2 => v = .non ∧ H2 = upd H e1 (exo e1 C none)) E0 := ⟨e1, rfl, upd_same, rfl, rfl⟩
  have vals : Vals [V.ref e1] (Value.ref e1 :: us) := by rw [hus]; exact .cons rfl .nil
  have binds := hb ⟨(h1.push (PySem.W.kdv_tup us)).push (PySem.HandSPX.excO C h1.objs.size), g, dr, tk, os⟩ (Value.ref e1 :: us) I2.kIn (by rw [List.append_nil, ← vals.length, (F X.w X.base).len _ _ _ _ want])
  rw [List.append_nil] at binds
  have run := (F X.w X.base).run (X.A.under (.builtin "type.__call__" ⟨.ref C :: us, []⟩)) X.stack ⟨(h1.push (PySem.W.kdv_tup us)).push (PySem.HandSPX.excO C h1.objs.size), g, dr, tk, os⟩ _ ⟨Value.ref e1 :: us, []⟩ _ _ _ E0 (hr.make C us []) (I2.env0.make C us []) binds vals want
  refine wpAny_call (PySem.HandSPX.call_own PySem.F.excBase_ValueError (fun Y => PySem.HandSPX.refsVE_contains Y bm hbm) (I1.kIn _ _ hC) (PySem.W.looks_findIn I1.kIn iC) (fun self => PySem.W.bind_fn I1.kIn self tI) few ?_)
  rw [ee]
  refine codeAny_mono run fun r s' out => ?_
  match r, out with
  | .ok (.ret u), ⟨v, H2, o2, b2, u2, ok2, rv, ev, eh⟩ =>
    subst ev
    subst eh
    have ⟨t0, G, J, kG, ge, ho, na⟩ := mk_end0n (d2 := s'.drawn) (t2 := s'.toks) I1 big keep u2 ok2 o2 b2
    exact ⟨rv, e1, _, _, _, _, .ref C, none, rfl, J, kG, ge, ho, ⟨rfl, rfl, fun ws e => by cases e; rfl⟩, rfl, rfl, na, rfl, b2, raises_own R.T.exC R.T.tyC, h⟩
def tRaiseEr0 (C : Addr) (W : WX) : TS := fun _ σ H => W (.ref C) none σ H
theorem ps_raiseEr0 {X : Cx} {W : WX} {x : Str} {C : Addr} {p pos pos2 : Pos} (hc : X.calm = true) (R : Er0 X.prog X.K X.mg x C) (hr : Room 2 X.A) (tk : L2N.Takes X W) (hg : Gl X x := by rfl)
    (db : (x == ("__debug__" : Str)) = false := by decide) :
    PS X (.Raise (some (.Call (.Name x p) [] [] pos)) none pos2) (tRaiseEr0 C W) := L2N.ps_raise hc tk (pmk_er0 R hr hg db)
end Eb
namespace Dl
open PySem PySem.Spec L2
theorem ss_raise0 {cl : Nat → Addr} {kp : List Nat} {Eh : XK} {c : Nat} (hf : eF c = []) : SS cl kp Eh (Eb.tRaiseEr0 (cl (100 + c)) (fun cls d _ H => Eh cls d H)) (gRaise c gA0) := by
  intro τ F H fp env σ D f env' I e k
  obtain ⟨⟨rs, e1⟩, h1, e⟩ := Option.bind_eq_some_iff.mp e
  cases h1
  obtain ⟨xs, hx, e⟩ := Option.bind_eq_some_iff.mp e
  cases hx
  split at e
  case isFalse => cases e
  cases e
  exact k F H fp σ (fun _ => False) _ _ I (Go.refl.mono fun p z => z.elim id False.elim) ⟨rfl, [], .inl ⟨hf, rfl⟩, rfl, by rw [hf]; rfl⟩ (fun p z => z.elim)
end Dl
namespace Dg
open PySem PySem.Spec L2 Dl
noncomputable def Xb__law_second_v2 : GS :=
  (gSeq (gIfS (gB (gOp true fEq (gV 0) (gK (.int 10)))) (gRaise 10 (gA (gV 1) gA0)) gSkip)
  (gSeq (gIfS (gB (gOp true fEq (gV 0) (gK (.int 11)))) (gRaise 11 (gA (gV 1) gA0)) gSkip)
  (gSeq (gIfS (gB (gOp true fEq (gV 0) (gK (.int 12)))) (gRaise 12 (gA (gV 1) gA0)) gSkip)
  (gSeq (gIfS (gB (gOp true fEq (gV 0) (gK (.int 13)))) (gRaise 13 (gA (gV 1) gA0)) gSkip)
  (gSeq (gIfS (gB (gOp true fEq (gV 0) (gK (.int 14)))) (gRaise 14 (gA (gV 1) (gA (gV 2) gA0))) gSkip)
  (gSeq (gIfS (gB (gOp true fEq (gV 0) (gK (.int 15)))) (gRaise 15 gA0) gSkip)
  (gSeq (gIfS (gB (gOp true fEq (gV 0) (gK (.int 16)))) (gRaise 16 gA0) gSkip)
  (gSeq (gIfS (gB (gOp true fEq (gV 0) (gK (.int 17)))) (gRaise 17 (gA (gV 1) gA0)) gSkip)
  (gRaise 18 (gA (gV 1) gA0))))))))))
noncomputable def X__law_second_v2 : BF := fnB [] 3 0 Xb__law_second_v2
noncomputable def Dq__law_late_v2 : GS :=
  (gOr (gDo (gCall D__law_second [] (gA (gV 0) (gA (gV 1) (gA (gV 2) gA0))))) (bCall X__law_second_v2 [] (gA (gV 0) (gA (gV 1) (gA (gV 2) gA0)))))
noncomputable def Dz__law_late_v2 : GS :=
  (gRet 3 (gLst gNil))
def Tb__law_late_v2 : Nat → Option (List A → List A) :=
  (fun c => if c = 10 then some (fun xs => .int 10 :: xs.getD 0 .non :: .bl true :: []) else if c = 11 then some (fun xs => .int 11 :: xs.getD 0 .non :: .bl true :: []) else if c = 12 then some (fun xs => .int 12 :: xs.getD 0 .non :: .bl true :: []) else if c = 13 then some (fun xs => .int 13 :: xs.getD 0 .non :: .bl true :: []) else if c = 14 then some (fun xs => .int 14 :: xs.getD 0 .non :: xs.getD 1 .non :: .bl true :: []) else if c = 15 then some (fun xs => .int 15 :: .bl true :: []) else if c = 16 then some (fun xs => .int 16 :: .bl true :: []) else if c = 17 then some (fun xs => .int 17 :: xs.getD 0 .non :: .bl true :: []) else if c = 18 then some (fun xs => .int 18 :: xs.getD 0 .non :: .bl true :: []) else none)
noncomputable def D__law_late_v2 : GF := fnT [] 3 1 Dq__law_late_v2 Dz__law_late_v2 Tb__law_late_v2
noncomputable def Dq__law_as_base_v2 : GS :=
  (gIfS (gB (gOp true fLt (gV 0) (gK (.int 10)))) (gOr (gDo (gCall D__law_first [] (gA (gV 0) (gA (gV 1) (gA (gV 2) (gA (gV 3) gA0)))))) (bCall X__law_first [] (gA (gV 0) (gA (gV 1) (gA (gV 2) (gA (gV 3) gA0)))))) (gOr (gDo (gCall D__law_second [] (gA (gV 0) (gA (gV 1) (gA (gV 2) gA0))))) (bCall X__law_second_v2 [] (gA (gV 0) (gA (gV 1) (gA (gV 2) gA0))))))
noncomputable def Dz__law_as_base_v2 : GS :=
  (gRet 4 (gK (.bl false)))
def Tb__law_as_base_v2 : Nat → Bool :=
  (fun c => decide (c < 19))
noncomputable def D__law_as_base_v2 : GF := fnTB [] 4 1 Dq__law_as_base_v2 Dz__law_as_base_v2 Tb__law_as_base_v2
noncomputable def Dl_law_k77_2 : GS :=
  (gSeq (gAsg 4 (gOp true fSub (gCall D__law_take [] (gA (gV 1) (gA (gOp true fSub (gOp true fMul (gK (.int 2)) (gOp true fPow (gK (.int 10)) (gK (.int 9)))) (gK (.int 1))) gA0))) (gOp true fSub (gOp true fPow (gK (.int 10)) (gK (.int 9))) (gK (.int 1)))))
  (gSeq (gAsg 5 (gOp true fSub (gCall D__law_take [] (gA (gV 1) (gA (gOp true fSub (gOp true fMul (gK (.int 2)) (gOp true fPow (gK (.int 10)) (gK (.int 9)))) (gK (.int 1))) gA0))) (gOp true fSub (gOp true fPow (gK (.int 10)) (gK (.int 9))) (gK (.int 1)))))
  (gSeq (gAsg 6 (gFr false (gLst (gCons (gS true (gV 3)) (gCons (gS true (gV 4)) (gCons (gS true (gK (.bl true))) gNil))))))
  (gSeq (gIfS (gB (gOp true (fInS false) (gV 3) (gLst (gCons (gS true (gK (.int 3))) (gCons (gS true (gK (.int 14))) gNil))))) (gAsg 6 (gFr false (gLst (gCons (gS true (gV 3)) (gCons (gS true (gV 4)) (gCons (gS true (gV 5)) (gCons (gS true (gK (.bl true))) gNil))))))) gSkip)
  (gSeq (gIfS (gB (gOp true (fInS false) (gV 3) (gLst (gCons (gS true (gK (.int 5))) (gCons (gS true (gK (.int 6))) gNil))))) (gAsg 6 (gFr false (gLst (gCons (gS true (gV 3)) (gCons (gS true (gV 2)) (gCons (gS true (gK (.bl true))) gNil)))))) gSkip)
  (gSeq (gIfS (gB (gOp true fEq (gV 3) (gK (.int 7)))) (gAsg 6 (gFr false (gLst (gCons (gS true (gV 3)) (gCons (gS true (gV 2)) (gCons (gS true (gV 5)) (gCons (gS true (gK (.bl true))) gNil))))))) gSkip)
  (gSeq (gIfS (gB (gOp true (fInS false) (gV 3) (gLst (gCons (gS true (gK (.int 15))) (gCons (gS true (gK (.int 16))) gNil))))) (gAsg 6 (gFr false (gLst (gCons (gS true (gV 3)) (gCons (gS true (gK (.bl true))) gNil))))) gSkip)
  (gSeq (gAsg 7 (gFr false (gCall D__law_late_v2 [] (gA (gV 3) (gA (gV 4) (gA (gV 5) gA0))))))
  (gSeq (gIfS (gB (gOp true fLt (gV 3) (gK (.int 10)))) (gAsg 7 (gFr false (gCall D__law_early [] (gA (gV 3) (gA (gV 4) (gA (gV 5) (gA (gV 2) gA0))))))) gSkip)
  (gIfS (gOrT (gB (gOp true fNeD (gV 7) (gV 6))) (gNotT (gB (gCall D__law_as_base_v2 [] (gA (gV 3) (gA (gV 4) (gA (gV 5) (gA (gV 2) gA0)))))))) (gRet 1 (gK (.bl false))) gSkip))))))))))
noncomputable def Dr_law_k77_v2 : GS :=
  (gSeq (gAsg 2 (gMs mJoin (gK (.str "")) (gCons (gS false (gCall D__law_letters [] (gA (gV 1) (gA (gCall D__law_take [] (gA (gV 1) (gA (gK (.int 4)) gA0))) gA0)))) gNil)))
  (gSeq (gFor (gItR1 (gK (.int 19))) (hName 3) Dl_law_k77_2)
  (gRet 1 (gK (.bl true)))))
end Dg
namespace Dg
open PySem PySem.Spec L2 Dl
structure Bn (mg : Str → Option Value) : Prop where
  abs_ : mg "abs" = none
  int_ : mg "int" = none
  len_ : mg "len" = none
  range_ : mg "range" = none
structure Al (P : Program) (K : PySem.W.Frag) (mg : Str → Option Value) (cl : Nat → Addr) : Prop where
  B : Bn mg
  f__law_box : ∃ f fd, Fun K "_law_box" "_law_box" s__law_box f fd ∧ mg "_law_box" = some (.ref f) ∧ Binds K fd ["_law_script"] []
  f__law_take : ∃ f fd, Fun K "_law_take" "_law_take" s__law_take f fd ∧ mg "_law_take" = some (.ref f) ∧ Binds K fd ["_law_box_here", "_law_many"] []
  f__law_letters : ∃ f fd, Fun K "_law_letters" "_law_letters" s__law_letters f fd ∧ mg "_law_letters" = some (.ref f) ∧ Binds K fd ["_law_box_here", "_law_many"] []
  f__law_second : ∃ f fd, Fun K "_law_second" "_law_second" s__law_second f fd ∧ mg "_law_second" = some (.ref f) ∧ Binds K fd ["_law_which", "_law_one", "_law_two"] []
  f__law_late : ∃ f fd, Fun K "_law_late" "_law_late" s__law_late f fd ∧ mg "_law_late" = some (.ref f) ∧ Binds K fd ["_law_which", "_law_one", "_law_two"] []
  f__law_first : ∃ f fd, Fun K "_law_first" "_law_first" s__law_first f fd ∧ mg "_law_first" = some (.ref f) ∧ Binds K fd ["_law_which", "_law_one", "_law_two", "_law_text"] []
  f__law_early : ∃ f fd, Fun K "_law_early" "_law_early" s__law_early f fd ∧ mg "_law_early" = some (.ref f) ∧ Binds K fd ["_law_which", "_law_one", "_law_two", "_law_text"] []
  f__law_as_base : ∃ f fd, Fun K "_law_as_base" "_law_as_base" s__law_as_base f fd ∧ mg "_law_as_base" = some (.ref f) ∧ Binds K fd ["_law_which", "_law_one", "_law_two", "_law_text"] []
  f_law_k77 : ∃ f fd, Fun K "law" "law" s_law_k77 f fd ∧ mg "law" = some (.ref f) ∧ Binds K fd ["_law_script"] []
  f__law_single : ∃ f fd, Fun K "_law_single" "_law_single" s__law_single f fd ∧ mg "_law_single" = some (.ref f) ∧ Binds K fd ["_law_e"] []
  errG : Eb.ErrG mg (erOf cl)
  e_BadSize : Eb.ErX P K mg (erOf cl) "BadSize" ["size"] (cl 100)
  e_BadTable : Eb.ErX P K mg (erOf cl) "BadTable" ["index"] (cl 101)
  e_UnknownWord : Eb.ErX P K mg (erOf cl) "UnknownWord" ["word"] (cl 102)
  e_SizeMismatch : Eb.ErX P K mg (erOf cl) "SizeMismatch" ["first", "second"] (cl 103)
  e_BadCount : Eb.ErX P K mg (erOf cl) "BadCount" ["count"] (cl 104)
  e_BadPerson : Eb.ErX P K mg (erOf cl) "BadPerson" ["part"] (cl 105)
  e_BadLetter : Eb.ErX P K mg (erOf cl) "BadLetter" ["letter"] (cl 106)
  e_UnknownPerson : Eb.ErX P K mg (erOf cl) "UnknownPerson" ["letter", "place"] (cl 107)
  e_TooMany : Eb.ErX P K mg (erOf cl) "TooMany" ["limit"] (cl 108)
  e_BadPattern : Eb.ErX P K mg (erOf cl) "BadPattern" ["place"] (cl 109)
  e_SameWord : Eb.ErX P K mg (erOf cl) "SameWord" ["word"] (cl 110)
  e_UnknownClue : Eb.ErX P K mg (erOf cl) "UnknownClue" ["number"] (cl 111)
  e_BadPlace : Eb.ErX P K mg (erOf cl) "BadPlace" ["place"] (cl 112)
  e_TooLong : Eb.ErX P K mg (erOf cl) "TooLong" ["limit"] (cl 113)
  e_Melted : Eb.ErX P K mg (erOf cl) "Melted" ["first", "second"] (cl 114)
  e_NothingToUndo : Eb.ErX0 P K mg (erOf cl) "NothingToUndo" (cl 115)
  e_NothingToRedo : Eb.ErX0 P K mg (erOf cl) "NothingToRedo" (cl 116)
  e_Refused : Eb.ErX P K mg (erOf cl) "Refused" ["index"] (cl 117)
  e_BadLine : Eb.ErX P K mg (erOf cl) "BadLine" ["line"] (cl 118)
  x_0_M : PySem.W.exmOne K (.ref (cl 100)) (.ref (cl 99)) = some true
  x_0_0 : PySem.W.exmOne K (.ref (cl 100)) (.ref (cl 100)) = some true
  x_1_M : PySem.W.exmOne K (.ref (cl 101)) (.ref (cl 99)) = some true
  x_1_0 : PySem.W.exmOne K (.ref (cl 101)) (.ref (cl 100)) = some false
  x_1_1 : PySem.W.exmOne K (.ref (cl 101)) (.ref (cl 101)) = some true
  x_2_M : PySem.W.exmOne K (.ref (cl 102)) (.ref (cl 99)) = some true
  x_2_0 : PySem.W.exmOne K (.ref (cl 102)) (.ref (cl 100)) = some false
  x_2_1 : PySem.W.exmOne K (.ref (cl 102)) (.ref (cl 101)) = some false
  x_2_2 : PySem.W.exmOne K (.ref (cl 102)) (.ref (cl 102)) = some true
  x_3_M : PySem.W.exmOne K (.ref (cl 103)) (.ref (cl 99)) = some true
  x_3_0 : PySem.W.exmOne K (.ref (cl 103)) (.ref (cl 100)) = some false
  x_3_1 : PySem.W.exmOne K (.ref (cl 103)) (.ref (cl 101)) = some false
  x_3_2 : PySem.W.exmOne K (.ref (cl 103)) (.ref (cl 102)) = some false
  x_3_3 : PySem.W.exmOne K (.ref (cl 103)) (.ref (cl 103)) = some true
  x_4_M : PySem.W.exmOne K (.ref (cl 104)) (.ref (cl 99)) = some true
  x_4_0 : PySem.W.exmOne K (.ref (cl 104)) (.ref (cl 100)) = some false
  x_4_1 : PySem.W.exmOne K (.ref (cl 104)) (.ref (cl 101)) = some false
  x_4_2 : PySem.W.exmOne K (.ref (cl 104)) (.ref (cl 102)) = some false
  x_4_3 : PySem.W.exmOne K (.ref (cl 104)) (.ref (cl 103)) = some false
  x_4_4 : PySem.W.exmOne K (.ref (cl 104)) (.ref (cl 104)) = some true
  x_5_M : PySem.W.exmOne K (.ref (cl 105)) (.ref (cl 99)) = some true
  x_5_0 : PySem.W.exmOne K (.ref (cl 105)) (.ref (cl 100)) = some false
  x_5_1 : PySem.W.exmOne K (.ref (cl 105)) (.ref (cl 101)) = some false
  x_5_2 : PySem.W.exmOne K (.ref (cl 105)) (.ref (cl 102)) = some false
  x_5_3 : PySem.W.exmOne K (.ref (cl 105)) (.ref (cl 103)) = some false
  x_5_4 : PySem.W.exmOne K (.ref (cl 105)) (.ref (cl 104)) = some false
  x_5_5 : PySem.W.exmOne K (.ref (cl 105)) (.ref (cl 105)) = some true
  x_6_M : PySem.W.exmOne K (.ref (cl 106)) (.ref (cl 99)) = some true
  x_6_0 : PySem.W.exmOne K (.ref (cl 106)) (.ref (cl 100)) = some false
  x_6_1 : PySem.W.exmOne K (.ref (cl 106)) (.ref (cl 101)) = some false
  x_6_2 : PySem.W.exmOne K (.ref (cl 106)) (.ref (cl 102)) = some false
  x_6_3 : PySem.W.exmOne K (.ref (cl 106)) (.ref (cl 103)) = some false
  x_6_4 : PySem.W.exmOne K (.ref (cl 106)) (.ref (cl 104)) = some false
  x_6_5 : PySem.W.exmOne K (.ref (cl 106)) (.ref (cl 105)) = some false
  x_6_6 : PySem.W.exmOne K (.ref (cl 106)) (.ref (cl 106)) = some true
  x_7_M : PySem.W.exmOne K (.ref (cl 107)) (.ref (cl 99)) = some true
  x_7_0 : PySem.W.exmOne K (.ref (cl 107)) (.ref (cl 100)) = some false
  x_7_1 : PySem.W.exmOne K (.ref (cl 107)) (.ref (cl 101)) = some false
  x_7_2 : PySem.W.exmOne K (.ref (cl 107)) (.ref (cl 102)) = some false
  x_7_3 : PySem.W.exmOne K (.ref (cl 107)) (.ref (cl 103)) = some false
  x_7_4 : PySem.W.exmOne K (.ref (cl 107)) (.ref (cl 104)) = some false
  x_7_5 : PySem.W.exmOne K (.ref (cl 107)) (.ref (cl 105)) = some false
  x_7_6 : PySem.W.exmOne K (.ref (cl 107)) (.ref (cl 106)) = some false
  x_7_7 : PySem.W.exmOne K (.ref (cl 107)) (.ref (cl 107)) = some true
  x_8_M : PySem.W.exmOne K (.ref (cl 108)) (.ref (cl 99)) = some true
  x_8_0 : PySem.W.exmOne K (.ref (cl 108)) (.ref (cl 100)) = some false
  x_8_1 : PySem.W.exmOne K (.ref (cl 108)) (.ref (cl 101)) = some false
  x_8_2 : PySem.W.exmOne K (.ref (cl 108)) (.ref (cl 102)) = some false
  x_8_3 : PySem.W.exmOne K (.ref (cl 108)) (.ref (cl 103)) = some false
  x_8_4 : PySem.W.exmOne K (.ref (cl 108)) (.ref (cl 104)) = some false
  x_8_5 : PySem.W.exmOne K (.ref (cl 108)) (.ref (cl 105)) = some false
  x_8_6 : PySem.W.exmOne K (.ref (cl 108)) (.ref (cl 106)) = some false
  x_8_7 : PySem.W.exmOne K (.ref (cl 108)) (.ref (cl 107)) = some false
  x_8_8 : PySem.W.exmOne K (.ref (cl 108)) (.ref (cl 108)) = some true
  x_9_M : PySem.W.exmOne K (.ref (cl 109)) (.ref (cl 99)) = some true
  x_9_0 : PySem.W.exmOne K (.ref (cl 109)) (.ref (cl 100)) = some false
  x_9_1 : PySem.W.exmOne K (.ref (cl 109)) (.ref (cl 101)) = some false
  x_9_2 : PySem.W.exmOne K (.ref (cl 109)) (.ref (cl 102)) = some false
  x_9_3 : PySem.W.exmOne K (.ref (cl 109)) (.ref (cl 103)) = some false
  x_9_4 : PySem.W.exmOne K (.ref (cl 109)) (.ref (cl 104)) = some false
  x_9_5 : PySem.W.exmOne K (.ref (cl 109)) (.ref (cl 105)) = some false
  x_9_6 : PySem.W.exmOne K (.ref (cl 109)) (.ref (cl 106)) = some false
  x_9_7 : PySem.W.exmOne K (.ref (cl 109)) (.ref (cl 107)) = some false
  x_9_8 : PySem.W.exmOne K (.ref (cl 109)) (.ref (cl 108)) = some false
  x_9_9 : PySem.W.exmOne K (.ref (cl 109)) (.ref (cl 109)) = some true
  x_10_M : PySem.W.exmOne K (.ref (cl 110)) (.ref (cl 99)) = some true
  x_10_10 : PySem.W.exmOne K (.ref (cl 110)) (.ref (cl 110)) = some true
  x_11_M : PySem.W.exmOne K (.ref (cl 111)) (.ref (cl 99)) = some true
  x_11_10 : PySem.W.exmOne K (.ref (cl 111)) (.ref (cl 110)) = some false
  x_11_11 : PySem.W.exmOne K (.ref (cl 111)) (.ref (cl 111)) = some true
  x_12_M : PySem.W.exmOne K (.ref (cl 112)) (.ref (cl 99)) = some true
  x_12_10 : PySem.W.exmOne K (.ref (cl 112)) (.ref (cl 110)) = some false
  x_12_11 : PySem.W.exmOne K (.ref (cl 112)) (.ref (cl 111)) = some false
  x_12_12 : PySem.W.exmOne K (.ref (cl 112)) (.ref (cl 112)) = some true
  x_13_M : PySem.W.exmOne K (.ref (cl 113)) (.ref (cl 99)) = some true
  x_13_10 : PySem.W.exmOne K (.ref (cl 113)) (.ref (cl 110)) = some false
  x_13_11 : PySem.W.exmOne K (.ref (cl 113)) (.ref (cl 111)) = some false
  x_13_12 : PySem.W.exmOne K (.ref (cl 113)) (.ref (cl 112)) = some false
  x_13_13 : PySem.W.exmOne K (.ref (cl 113)) (.ref (cl 113)) = some true
  x_14_M : PySem.W.exmOne K (.ref (cl 114)) (.ref (cl 99)) = some true
  x_14_10 : PySem.W.exmOne K (.ref (cl 114)) (.ref (cl 110)) = some false
  x_14_11 : PySem.W.exmOne K (.ref (cl 114)) (.ref (cl 111)) = some false
  x_14_12 : PySem.W.exmOne K (.ref (cl 114)) (.ref (cl 112)) = some false
  x_14_13 : PySem.W.exmOne K (.ref (cl 114)) (.ref (cl 113)) = some false
  x_14_14 : PySem.W.exmOne K (.ref (cl 114)) (.ref (cl 114)) = some true
  x_15_M : PySem.W.exmOne K (.ref (cl 115)) (.ref (cl 99)) = some true
  x_15_10 : PySem.W.exmOne K (.ref (cl 115)) (.ref (cl 110)) = some false
  x_15_11 : PySem.W.exmOne K (.ref (cl 115)) (.ref (cl 111)) = some false
  x_15_12 : PySem.W.exmOne K (.ref (cl 115)) (.ref (cl 112)) = some false
  x_15_13 : PySem.W.exmOne K (.ref (cl 115)) (.ref (cl 113)) = some false
  x_15_14 : PySem.W.exmOne K (.ref (cl 115)) (.ref (cl 114)) = some false
  x_15_15 : PySem.W.exmOne K (.ref (cl 115)) (.ref (cl 115)) = some true
  x_16_M : PySem.W.exmOne K (.ref (cl 116)) (.ref (cl 99)) = some true
  x_16_10 : PySem.W.exmOne K (.ref (cl 116)) (.ref (cl 110)) = some false
  x_16_11 : PySem.W.exmOne K (.ref (cl 116)) (.ref (cl 111)) = some false
  x_16_12 : PySem.W.exmOne K (.ref (cl 116)) (.ref (cl 112)) = some false
  x_16_13 : PySem.W.exmOne K (.ref (cl 116)) (.ref (cl 113)) = some false
  x_16_14 : PySem.W.exmOne K (.ref (cl 116)) (.ref (cl 114)) = some false
  x_16_15 : PySem.W.exmOne K (.ref (cl 116)) (.ref (cl 115)) = some false
  x_16_16 : PySem.W.exmOne K (.ref (cl 116)) (.ref (cl 116)) = some true
  x_17_M : PySem.W.exmOne K (.ref (cl 117)) (.ref (cl 99)) = some true
  x_17_10 : PySem.W.exmOne K (.ref (cl 117)) (.ref (cl 110)) = some false
  x_17_11 : PySem.W.exmOne K (.ref (cl 117)) (.ref (cl 111)) = some false
  x_17_12 : PySem.W.exmOne K (.ref (cl 117)) (.ref (cl 112)) = some false
  x_17_13 : PySem.W.exmOne K (.ref (cl 117)) (.ref (cl 113)) = some false
  x_17_14 : PySem.W.exmOne K (.ref (cl 117)) (.ref (cl 114)) = some false
  x_17_15 : PySem.W.exmOne K (.ref (cl 117)) (.ref (cl 115)) = some false
  x_17_16 : PySem.W.exmOne K (.ref (cl 117)) (.ref (cl 116)) = some false
  x_17_17 : PySem.W.exmOne K (.ref (cl 117)) (.ref (cl 117)) = some true
  x_18_M : PySem.W.exmOne K (.ref (cl 118)) (.ref (cl 99)) = some true
  x_18_10 : PySem.W.exmOne K (.ref (cl 118)) (.ref (cl 110)) = some false
  x_18_11 : PySem.W.exmOne K (.ref (cl 118)) (.ref (cl 111)) = some false
  x_18_12 : PySem.W.exmOne K (.ref (cl 118)) (.ref (cl 112)) = some false
  x_18_13 : PySem.W.exmOne K (.ref (cl 118)) (.ref (cl 113)) = some false
  x_18_14 : PySem.W.exmOne K (.ref (cl 118)) (.ref (cl 114)) = some false
  x_18_15 : PySem.W.exmOne K (.ref (cl 118)) (.ref (cl 115)) = some false
  x_18_16 : PySem.W.exmOne K (.ref (cl 118)) (.ref (cl 116)) = some false
  x_18_17 : PySem.W.exmOne K (.ref (cl 118)) (.ref (cl 117)) = some false
  x_18_18 : PySem.W.exmOne K (.ref (cl 118)) (.ref (cl 118)) = some true
section
open Eb
variable {P : Program} {w : World} {K : PySem.W.Frag} {mg : Str → Option Value} {base : Heap}
theorem ok_single {f : Addr} {r : Errs} {fd : FuncData} (F : Fun K "_law_single" "_law_single" s__law_single f fd) (G : ErrG mg r) : FnE P w K mg base 1 f fd ["_law_e"] (spSingle K r) := by
  have ⟨oc, od, kV, doc, pm, an, cdv, ct, osl, e, lk, hcd⟩ := F.ex
  subst e
  refine fn_ofE lk hcd sc__law_single (fun p vs H Q E h => ?_) (fun p A outer s H vs Q hot room h => ?_)
  · obtain ⟨D, oD, rfl, _⟩ := h
    rfl
  · obtain ⟨D, oD, rfl, kg, hz, hf, hdd, k⟩ := h
    have isx : ∀ {x1 : Str} {t1 : TE} {q1 q2 q3 q4 : Pos}, PE (L2H.cxH CX0 P w K mg base N__law_single "_law_single" (defScope s__law_single) f cdv A outer s H E0 p) (.Name x1 q4) t1 → PE (L2H.cxH CX0 P w K mg base N__law_single "_law_single" (defScope s__law_single) f cdv A outer s H E0 p) (.Call (.Name "isinstance" q1) [.Name "_law_e" q2, .Name x1 q4] [] q3) (tCB (rIsEx K p) (tCons (tVar 0) (tCons t1 tNil))) :=
      fun h1 => pe_callB (call_isEx (List.mem_singleton.mpr rfl)) (by rfl) G.i (by decide +kernel) (pa_cons (pv 0) (pa_cons h1 pa_nil))
    refine ⟨_, (pss_cons (ps_set (i := 1) sc__law_single.nd rfl (Or.inl rfl) (pe_lst (pa_cons (isx (pe_glob rfl G.e0 (v := .ref r.c0) rfl)) (pa_cons (isx (pe_glob rfl G.e1 (v := .ref r.c1) rfl)) (pa_cons (isx (pe_glob rfl G.e2 (v := .ref r.c2) rfl)) (pa_cons (isx (pe_glob rfl G.e3 (v := .ref r.c3) rfl)) pa_nil))))))
      (pss_cons (ps_set (i := 1) sc__law_single.nd rfl (Or.inl rfl) (pe_op op_cat (pv 1) (pe_lst (pa_cons (isx (pe_glob rfl G.e4 (v := .ref r.c4) rfl)) (pa_cons (isx (pe_glob rfl G.e5 (v := .ref r.c5) rfl)) (pa_cons (isx (pe_glob rfl G.e6 (v := .ref r.c6) rfl)) pa_nil))))))
      (pss_cons (ps_set (i := 1) sc__law_single.nd rfl (Or.inl rfl) (pe_op op_cat (pv 1) (pe_lst (pa_cons (isx (pe_glob rfl G.e7 (v := .ref r.c7) rfl)) (pa_cons (isx (pe_glob rfl G.e8 (v := .ref r.c8) rfl)) (pa_cons (isx (pe_glob rfl G.e9 (v := .ref r.c9) rfl)) pa_nil))))))
      (pss_cons (ps_set (i := 1) sc__law_single.nd rfl (Or.inl rfl) (pe_op op_cat (pv 1) (pe_lst (pa_cons (isx (pe_glob rfl G.e10 (v := .ref r.c10) rfl)) (pa_cons (isx (pe_glob rfl G.e11 (v := .ref r.c11) rfl)) (pa_cons (isx (pe_glob rfl G.e12 (v := .ref r.c12) rfl)) pa_nil))))))
      (pss_cons (ps_set (i := 1) sc__law_single.nd rfl (Or.inl rfl) (pe_op op_cat (pv 1) (pe_lst (pa_cons (isx (pe_glob rfl G.e13 (v := .ref r.c13) rfl)) (pa_cons (isx (pe_glob rfl G.e14 (v := .ref r.c14) rfl)) (pa_cons (isx (pe_glob rfl G.e15 (v := .ref r.c15) rfl)) pa_nil))))))
      (pss_cons (ps_set (i := 1) sc__law_single.nd rfl (Or.inl rfl) (pe_op op_cat (pv 1) (pe_lst (pa_cons (isx (pe_glob rfl G.e16 (v := .ref r.c16) rfl)) (pa_cons (isx (pe_glob rfl G.e17 (v := .ref r.c17) rfl)) (pa_cons (isx (pe_glob rfl G.e18 (v := .ref r.c18) rfl)) pa_nil))))))
      (pss_one (ps_ret (pe_and (isx (pe_glob rfl G.m (v := .ref r.M) rfl)) (pe_and (isx (pe_bltn (by rfl) G.v (by decide +kernel) (v := .ty "ValueError") (u := .type "ValueError") rfl)) (pe_one (pe_cmpR op_eq (pe_callB call_len_seq (by rfl) G.l PySem.boot_len (pa_cons (pe_lcH (own := [("_law_kind", 2)]) (g := gName 2) (tt := tTest (tVar 2)) ⟨p, hot, List.mem_singleton.mpr rfl⟩ sc__law_single.nd (pv 1) (blkOk_by (own := [("_law_kind", 2)]) (N := N__law_single) (sc := defScope s__law_single) (by decide +kernel)) (fun _ _ _ _ _ => pg_name (i := 2) sc__law_single.nd rfl (Or.inl rfl)) (fun _ _ _ _ _ => pts_one (pt_val (pv 2))) (fun _ _ _ _ _ => pe_int)) pa_nil)) pe_int (nomark _))))))))))))), ?_⟩
    obtain ⟨b0, b1, b2, b3, b4, b5, b6, b7, b8, b9, b10, b11, b12, b13, b14, b15, b16, b17, b18, h0, h1, h2, h3, h4, h5, h6, h7, h8, h9, h10, h11, h12, h13, h14, h15, h16, h17, h18, one⟩ := kg.k
    refine ⟨_, rfl, D, _, .ref r.c0, b0, oD, rfl, fun u h => h, kg.x, hz, hf, hdd, h0, ⟨_, rfl, D, _, .ref r.c1, b1, oD, rfl, fun u h => h, kg.x, hz, hf, hdd, h1, ⟨_, rfl, D, _, .ref r.c2, b2, oD, rfl, fun u h => h, kg.x, hz, hf, hdd, h2, ⟨_, rfl, D, _, .ref r.c3, b3, oD, rfl, fun u h => h, kg.x, hz, hf, hdd, h3, by show 4 ≤ sizeLine; decide, fun l0 n0 => ?_⟩⟩⟩⟩
    have k0 := newH (H := H) (o := .lst [.bl b0, .bl b1, .bl b2, .bl b3]) n0
    have a0 : upd H l0 (.lst [.bl b0, .bl b1, .bl b2, .bl b3]) l0 = some (.lst [.bl b0, .bl b1, .bl b2, .bl b3]) := upd_same
    generalize upd H l0 (.lst [.bl b0, .bl b1, .bl b2, .bl b3]) = H0 at k0 a0 ⊢
    have d0 := hdd.same k0
    refine ⟨_, rfl, ?_⟩
    refine ⟨_, rfl, D, _, .ref r.c4, b4, oD, rfl, fun u h => h, kg.x, hz, hf, d0, h4, ⟨_, rfl, D, _, .ref r.c5, b5, oD, rfl, fun u h => h, kg.x, hz, hf, d0, h5, ⟨_, rfl, D, _, .ref r.c6, b6, oD, rfl, fun u h => h, kg.x, hz, hf, d0, h6, by show 3 ≤ sizeLine; decide, fun m1 n1 => ?_⟩⟩⟩
    have a0' := newH (H := H0) (o := .lst [.bl b4, .bl b5, .bl b6]) n1 _ _ a0
    refine ⟨_, _, _, _, rfl, rfl, a0', upd_same, by show 4 + 3 ≤ sizeLine; decide, fun l1 x1 => ?_⟩
    have k1 := k0.trans ((newH (H := H0) (o := .lst [.bl b4, .bl b5, .bl b6]) n1).trans (newH (o := .lst ([.bl b0, .bl b1, .bl b2, .bl b3] ++ [.bl b4, .bl b5, .bl b6])) x1))
    have a1 : upd (upd H0 m1 (.lst [.bl b4, .bl b5, .bl b6])) l1 (.lst ([.bl b0, .bl b1, .bl b2, .bl b3] ++ [.bl b4, .bl b5, .bl b6])) l1 = some (.lst [.bl b0, .bl b1, .bl b2, .bl b3, .bl b4, .bl b5, .bl b6]) := upd_same
    generalize upd (upd H0 m1 (.lst [.bl b4, .bl b5, .bl b6])) l1 (.lst ([.bl b0, .bl b1, .bl b2, .bl b3] ++ [.bl b4, .bl b5, .bl b6])) = H1 at k1 a1 ⊢
    have d1 := hdd.same k1
    refine ⟨_, rfl, ?_⟩
    refine ⟨_, rfl, D, _, .ref r.c7, b7, oD, rfl, fun u h => h, kg.x, hz, hf, d1, h7, ⟨_, rfl, D, _, .ref r.c8, b8, oD, rfl, fun u h => h, kg.x, hz, hf, d1, h8, ⟨_, rfl, D, _, .ref r.c9, b9, oD, rfl, fun u h => h, kg.x, hz, hf, d1, h9, by show 3 ≤ sizeLine; decide, fun m2 n2 => ?_⟩⟩⟩
    have a1' := newH (H := H1) (o := .lst [.bl b7, .bl b8, .bl b9]) n2 _ _ a1
    refine ⟨_, _, _, _, rfl, rfl, a1', upd_same, by show 7 + 3 ≤ sizeLine; decide, fun l2 x2 => ?_⟩
    have k2 := k1.trans ((newH (H := H1) (o := .lst [.bl b7, .bl b8, .bl b9]) n2).trans (newH (o := .lst ([.bl b0, .bl b1, .bl b2, .bl b3, .bl b4, .bl b5, .bl b6] ++ [.bl b7, .bl b8, .bl b9])) x2))
    have a2 : upd (upd H1 m2 (.lst [.bl b7, .bl b8, .bl b9])) l2 (.lst ([.bl b0, .bl b1, .bl b2, .bl b3, .bl b4, .bl b5, .bl b6] ++ [.bl b7, .bl b8, .bl b9])) l2 = some (.lst [.bl b0, .bl b1, .bl b2, .bl b3, .bl b4, .bl b5, .bl b6, .bl b7, .bl b8, .bl b9]) := upd_same
    generalize upd (upd H1 m2 (.lst [.bl b7, .bl b8, .bl b9])) l2 (.lst ([.bl b0, .bl b1, .bl b2, .bl b3, .bl b4, .bl b5, .bl b6] ++ [.bl b7, .bl b8, .bl b9])) = H2 at k2 a2 ⊢
    have d2 := hdd.same k2
    refine ⟨_, rfl, ?_⟩
    refine ⟨_, rfl, D, _, .ref r.c10, b10, oD, rfl, fun u h => h, kg.x, hz, hf, d2, h10, ⟨_, rfl, D, _, .ref r.c11, b11, oD, rfl, fun u h => h, kg.x, hz, hf, d2, h11, ⟨_, rfl, D, _, .ref r.c12, b12, oD, rfl, fun u h => h, kg.x, hz, hf, d2, h12, by show 3 ≤ sizeLine; decide, fun m3 n3 => ?_⟩⟩⟩
    have a2' := newH (H := H2) (o := .lst [.bl b10, .bl b11, .bl b12]) n3 _ _ a2
    refine ⟨_, _, _, _, rfl, rfl, a2', upd_same, by show 10 + 3 ≤ sizeLine; decide, fun l3 x3 => ?_⟩
    have k3 := k2.trans ((newH (H := H2) (o := .lst [.bl b10, .bl b11, .bl b12]) n3).trans (newH (o := .lst ([.bl b0, .bl b1, .bl b2, .bl b3, .bl b4, .bl b5, .bl b6, .bl b7, .bl b8, .bl b9] ++ [.bl b10, .bl b11, .bl b12])) x3))
    have a3 : upd (upd H2 m3 (.lst [.bl b10, .bl b11, .bl b12])) l3 (.lst ([.bl b0, .bl b1, .bl b2, .bl b3, .bl b4, .bl b5, .bl b6, .bl b7, .bl b8, .bl b9] ++ [.bl b10, .bl b11, .bl b12])) l3 = some (.lst [.bl b0, .bl b1, .bl b2, .bl b3, .bl b4, .bl b5, .bl b6, .bl b7, .bl b8, .bl b9, .bl b10, .bl b11, .bl b12]) := upd_same
    generalize upd (upd H2 m3 (.lst [.bl b10, .bl b11, .bl b12])) l3 (.lst ([.bl b0, .bl b1, .bl b2, .bl b3, .bl b4, .bl b5, .bl b6, .bl b7, .bl b8, .bl b9] ++ [.bl b10, .bl b11, .bl b12])) = H3 at k3 a3 ⊢
    have d3 := hdd.same k3
    refine ⟨_, rfl, ?_⟩
    refine ⟨_, rfl, D, _, .ref r.c13, b13, oD, rfl, fun u h => h, kg.x, hz, hf, d3, h13, ⟨_, rfl, D, _, .ref r.c14, b14, oD, rfl, fun u h => h, kg.x, hz, hf, d3, h14, ⟨_, rfl, D, _, .ref r.c15, b15, oD, rfl, fun u h => h, kg.x, hz, hf, d3, h15, by show 3 ≤ sizeLine; decide, fun m4 n4 => ?_⟩⟩⟩
    have a3' := newH (H := H3) (o := .lst [.bl b13, .bl b14, .bl b15]) n4 _ _ a3
    refine ⟨_, _, _, _, rfl, rfl, a3', upd_same, by show 13 + 3 ≤ sizeLine; decide, fun l4 x4 => ?_⟩
    have k4 := k3.trans ((newH (H := H3) (o := .lst [.bl b13, .bl b14, .bl b15]) n4).trans (newH (o := .lst ([.bl b0, .bl b1, .bl b2, .bl b3, .bl b4, .bl b5, .bl b6, .bl b7, .bl b8, .bl b9, .bl b10, .bl b11, .bl b12] ++ [.bl b13, .bl b14, .bl b15])) x4))
    have a4 : upd (upd H3 m4 (.lst [.bl b13, .bl b14, .bl b15])) l4 (.lst ([.bl b0, .bl b1, .bl b2, .bl b3, .bl b4, .bl b5, .bl b6, .bl b7, .bl b8, .bl b9, .bl b10, .bl b11, .bl b12] ++ [.bl b13, .bl b14, .bl b15])) l4 = some (.lst [.bl b0, .bl b1, .bl b2, .bl b3, .bl b4, .bl b5, .bl b6, .bl b7, .bl b8, .bl b9, .bl b10, .bl b11, .bl b12, .bl b13, .bl b14, .bl b15]) := upd_same
    generalize upd (upd H3 m4 (.lst [.bl b13, .bl b14, .bl b15])) l4 (.lst ([.bl b0, .bl b1, .bl b2, .bl b3, .bl b4, .bl b5, .bl b6, .bl b7, .bl b8, .bl b9, .bl b10, .bl b11, .bl b12] ++ [.bl b13, .bl b14, .bl b15])) = H4 at k4 a4 ⊢
    have d4 := hdd.same k4
    refine ⟨_, rfl, ?_⟩
    refine ⟨_, rfl, D, _, .ref r.c16, b16, oD, rfl, fun u h => h, kg.x, hz, hf, d4, h16, ⟨_, rfl, D, _, .ref r.c17, b17, oD, rfl, fun u h => h, kg.x, hz, hf, d4, h17, ⟨_, rfl, D, _, .ref r.c18, b18, oD, rfl, fun u h => h, kg.x, hz, hf, d4, h18, by show 3 ≤ sizeLine; decide, fun m5 n5 => ?_⟩⟩⟩
    have a4' := newH (H := H4) (o := .lst [.bl b16, .bl b17, .bl b18]) n5 _ _ a4
    refine ⟨_, _, _, _, rfl, rfl, a4', upd_same, by show 16 + 3 ≤ sizeLine; decide, fun l5 x5 => ?_⟩
    have k5 := k4.trans ((newH (H := H4) (o := .lst [.bl b16, .bl b17, .bl b18]) n5).trans (newH (o := .lst ([.bl b0, .bl b1, .bl b2, .bl b3, .bl b4, .bl b5, .bl b6, .bl b7, .bl b8, .bl b9, .bl b10, .bl b11, .bl b12, .bl b13, .bl b14, .bl b15] ++ [.bl b16, .bl b17, .bl b18])) x5))
    have a5 : upd (upd H4 m5 (.lst [.bl b16, .bl b17, .bl b18])) l5 (.lst ([.bl b0, .bl b1, .bl b2, .bl b3, .bl b4, .bl b5, .bl b6, .bl b7, .bl b8, .bl b9, .bl b10, .bl b11, .bl b12, .bl b13, .bl b14, .bl b15] ++ [.bl b16, .bl b17, .bl b18])) l5 = some (.lst [.bl b0, .bl b1, .bl b2, .bl b3, .bl b4, .bl b5, .bl b6, .bl b7, .bl b8, .bl b9, .bl b10, .bl b11, .bl b12, .bl b13, .bl b14, .bl b15, .bl b16, .bl b17, .bl b18]) := upd_same
    generalize upd (upd H4 m5 (.lst [.bl b16, .bl b17, .bl b18])) l5 (.lst ([.bl b0, .bl b1, .bl b2, .bl b3, .bl b4, .bl b5, .bl b6, .bl b7, .bl b8, .bl b9, .bl b10, .bl b11, .bl b12, .bl b13, .bl b14, .bl b15] ++ [.bl b16, .bl b17, .bl b18])) = H5 at k5 a5 ⊢
    have d5 := hdd.same k5
    refine ⟨_, rfl, D, _, .ref r.M, true, oD, rfl, fun u h => h, kg.x, hz, hf, d5, kg.m, true, rfl, ?_⟩
    refine ⟨_, rfl, D, _, .type "ValueError", true, oD, rfl, fun u h => h, kg.x, hz, hf, d5, kg.v, true, rfl, ?_⟩
    refine ⟨_, rfl, l5, rfl, ⟨_, SqL.of a5⟩, fun D1 nD => ?_⟩
    have e5 : ([.bl b0, .bl b1, .bl b2, .bl b3, .bl b4, .bl b5, .bl b6, .bl b7, .bl b8, .bl b9, .bl b10, .bl b11, .bl b12, .bl b13, .bl b14, .bl b15, .bl b16, .bl b17, .bl b18] : List V) = [b0, b1, b2, b3, b4, b5, b6, b7, b8, b9, b10, b11, b12, b13, b14, b15, b16, b17, b18].map V.bl := rfl
    rw [e5] at a5
    have el19 : ([b0, b1, b2, b3, b4, b5, b6, b7, b8, b9, b10, b11, b12, b13, b14, b15, b16, b17, b18] : List Bool).length = 19 := rfl
    generalize [b0, b1, b2, b3, b4, b5, b6, b7, b8, b9, b10, b11, b12, b13, b14, b15, b16, b17, b18] = bs at a5 one el19
    refine lc_list (K := K) (a := l5) (xs := bs.map V.bl) (fun i H' => Same H5 H' ∧ H' D1 = some (.lst (List.replicate ((bs.take i).filter id).length (V.int 1)))) ⟨newH nD, upd_same⟩ (fun i H' _ ⟨s, _⟩ => SqL.of (s _ _ a5)) ?_ ?_
    · rintro i y H6 hi ⟨s6, hd⟩
      obtain ⟨b, hb, rfl⟩ := bl_at hi
      refine ⟨rfl, ?_⟩
      refine ⟨_, rfl, b, rfl, ?_⟩
      cases b with
      | false =>
        refine iteF ⟨s6, ?_⟩
        rw [ones_more hb, if_neg Bool.false_ne_true, List.append_nil]
        exact hd
      | true =>
        refine iteT ⟨_, hd, ?_, updN s6 nD, ?_⟩
        · rw [List.length_replicate]
          have h1 : ((bs.take i).filter id).length ≤ (bs.take i).length := List.length_filter_le _ _
          have h2 : (bs.take i).length ≤ bs.length := List.length_take_le' _ _
          exact Nat.lt_of_le_of_lt (by omega : _ ≤ 19) (by decide)
        · rw [upd_same, ones_more hb, if_pos rfl]
    · rintro H6 ⟨s6, hd⟩
      have el : (bs.map V.bl).length = bs.length := List.length_map ..
      rw [el, List.take_length, one] at hd
      exact ⟨D1, _, rfl, .inl (SqL.of hd), rfl, k H6 (k5.trans s6)⟩
end
section
variable {P : Program} {w : World} {K : PySem.W.Frag} {mg : Str → Option Value} {base : Heap} {cl : Nat → Addr}
theorem okb__law_box (S : Al P K mg cl) : ∃ f fd, FnOk P w K mg base CX0 1 f fd ["_law_script"] (spBox K) ∧ mg "_law_box" = some (.ref f) ∧ PySem.W.keepIn K (.ref f) = true ∧ Binds K fd ["_law_script"] [] := by
  obtain ⟨f, fd, F, i, b⟩ := S.f__law_box
  refine ⟨f, fd, ?_, i, F.kp, b⟩
  refine F.ok sc__law_box (fun vs H Q E h => ?_) (fun cdv A outer s H vs Q E hr h => ?_)
  · obtain ⟨a, ns, rfl, _⟩ := h
    rfl
  · obtain ⟨a, ns, rfl, hS, hlen, k⟩ := h
    refine ⟨_, pss_one (ps_ret (pe_lst (pa_cons (pe_lc (own := [("_law_cell", 1)]) (g := gName 1) (tt := tYes) rfl sc__law_box.nd (pi_list (pe_slice sl_list (pv 0) po_none (po_some pe_int))) (blkOk_by (own := [("_law_cell", 1)]) (N := ["_law_script", "_law_cell"]) (sc := defScope s__law_box) (by decide +kernel))
          (fun _ _ _ _ _ => pg_name (i := 1) sc__law_box.nd rfl (Or.inl rfl)) (fun _ _ _ _ _ => pts_nil)
          (fun _ _ _ _ _ => pe_callB call_abs (by rfl) S.B.abs_ (by decide +kernel) (pa_cons (pe_callTy call_int1 (by rfl) S.B.int_ (by decide +kernel) (pa_cons (pv 1) pa_nil)) pa_nil)))
        (pa_cons pe_int (pa_cons pe_int (pa_cons pe_int pa_nil)))))), ?_⟩
    refine ⟨_, rfl, 63, rfl, a, _, rfl, hS, fun p hp => ?_⟩
    obtain ⟨ms, em, lm⟩ := cut_vI ns none (some 63)
    rw [show ns.map V.int = vI ns from rfl, em]
    refine ⟨p, rfl, ⟨_, SqL.of upd_same⟩, fun D hD => ?_⟩
    have s1 := newH (H := H) (o := .lst (vI ms)) hp
    have hp1 : upd H p (.lst (vI ms)) p = some (.lst (vI ms)) := upd_same
    have hD0 := s1.free hD
    generalize upd H p (.lst (vI ms)) = H1 at hD s1 hp1
    refine lc_list (K := K) (a := p) (xs := vI ms) (fun i H' => Same H1 H' ∧ ∃ cs, H' D = some (.lst (vI cs)) ∧ cs.length = i ∧ ∀ x ∈ cs, 0 ≤ x) ⟨newH hD, [], upd_same, rfl, fun _ h => nomatch h⟩ (fun i H' _ ⟨s, _⟩ => SqL.of (s _ _ hp1)) ?_ ?_
    · rintro i y H2 hi ⟨s2, cs, hd, el, hc⟩
      obtain ⟨x, hx, rfl⟩ := vI_at hi
      have hi' := (List.getElem?_eq_some_iff.mp hx).1
      refine ⟨rfl, yesT (iteT ?_)⟩
      refine ⟨_, rfl, .inl ⟨_, rfl, _, rfl, ?_⟩⟩
      refine ⟨_, hd, ?_, updN s2 hD, cs ++ [if x < 0 then -x else x], ?_, by simp [el], ?_⟩
      · rw [vI_len, el]
        exact Nat.lt_of_le_of_lt (by omega : i ≤ 63) (by decide)
      · rw [upd_same]
        unfold vI
        rw [List.map_append]
        rfl
      · intro z hz
        rcases List.mem_append.mp hz with h | h
        · exact hc z h
        · rw [List.mem_singleton.mp h]
          split <;> omega
    · rintro H2 ⟨s2, cs, hd, el, hc⟩
      refine ⟨by show 4 ≤ sizeLine; decide, fun b hb => ?_⟩
      have nDb : D ≠ b := ne_of_none hd hb
      refine k _ b D cs (s1.trans (updM s2 hb)) nDb upd_same (by rw [upd_ne nDb]; exact hd) hc
theorem ok__law_take (S : Al P K mg cl) : ∃ f fd, FnOk P w K mg base CX0 1 f fd ["_law_box_here", "_law_many"] (spD cl D__law_take) ∧ mg "_law_take" = some (.ref f) ∧ PySem.W.keepIn K (.ref f) = true ∧ Binds K fd ["_law_box_here", "_law_many"] [] := by
  obtain ⟨f, fd, F, i, b⟩ := S.f__law_take
  refine ⟨f, fd, ?_, i, F.kp, b⟩
  refine Fun.okD F sc__law_take [] [0, 1] 2 Db__law_take rfl (by decide) fun cdv A outer s H E hr => ?_
  exact ⟨_, pss_cons (ps_if (pt_cmpR op_gt (pe_ix ix_list (pv 0) pe_int (fun _ _ => rfl)) pe_int (nomark _)) (pss_cons (ps_set (i := 2) sc__law_take.nd rfl (Or.inl rfl) (pe_op op_mod (pe_callTy call_int1 (by rfl) S.B.int_ (by decide +kernel) (pa_cons (pe_ix ix_list (pv 0) pe_int (fun _ _ => rfl)) pa_nil)) (pv 1)))
      (pss_cons (ps_asg (pe_op op_fdivB (pe_ix ix_list (pv 0) pe_int (fun _ _ => rfl)) (pv 1)) (pg_sub (pv 0) pe_int set_list))
      (pss_one (ps_ret (pv 2))))) pss_nil)
      (pss_cons (ps_set (i := 3) sc__law_take.nd rfl (Or.inl rfl) pe_int)
      (pss_cons (ps_if (pt_cmpR op_lt (pe_ix ix_list (pv 0) pe_int (fun _ _ => rfl)) (pe_callB call_len_seq (by rfl) S.B.len_ PySem.boot_len (pa_cons (pe_ix ix_list (pv 0) pe_int (fun _ _ => rfl)) pa_nil)) (nomark _)) (pss_cons (ps_set (i := 3) sc__law_take.nd rfl (Or.inl rfl) (pe_ix ix_list (pe_ix ix_list (pv 0) pe_int (fun _ _ => rfl)) (pe_ix ix_list (pv 0) pe_int (fun _ _ => rfl)) (fun _ _ => rfl)))
      (pss_one (ps_asg (pe_op op_add (pe_ix ix_list (pv 0) pe_int (fun _ _ => rfl)) pe_int) (pg_sub (pv 0) pe_int set_list)))) pss_nil)
      (pss_cons (ps_if (pt_cmpR op_ge (pv 3) (pe_op op_pow pe_int pe_int) (nomark _)) (pss_cons (ps_asg (pe_op op_fdivB (pv 3) (pv 1)) (pg_sub (pv 0) pe_int set_list))
      (pss_one (ps_ret (pe_op op_mod (pe_callTy call_int1 (by rfl) S.B.int_ (by decide +kernel) (pa_cons (pv 3) pa_nil)) (pv 1))))) pss_nil)
      (pss_cons (ps_asg (pe_op op_mod (pe_callTy call_int1 (by rfl) S.B.int_ (by decide +kernel) (pa_cons (pe_op op_add (pe_op op_mul (pe_ix ix_list (pv 0) pe_int (fun _ _ => rfl)) pe_int) (pv 3)) pa_nil)) pe_int) (pg_sub (pv 0) pe_int set_list))
      (pss_one (ps_ret (pe_op op_mod (pe_callTy call_int1 (by rfl) S.B.int_ (by decide +kernel) (pa_cons (pe_op op_fdivB (pe_op op_mod (pe_callTy call_int1 (by rfl) S.B.int_ (by decide +kernel) (pa_cons (pe_op op_mul (pe_ix ix_list (pv 0) pe_int (fun _ _ => rfl)) pe_int) pa_nil)) pe_int) pe_int) pa_nil)) (pv 1)))))))),
    (ss_seq (ss_if (st_test (se_op oi_gt (se_op oi_ixL se_var (se_const rfl)) (se_const rfl))) (ss_seq (ss_asg (i := 2) (by decide) (se_op oi_mod (se_b1 bi_int (se_op oi_ixL se_var (se_const rfl))) se_var))
      (ss_seq (ss_setI (SE.sf (se_op oi_div (se_op oi_ixL se_var (se_const rfl)) se_var)) se_var (se_const rfl))
      (ss_ret (np := 2) se_var))) ss_nil)
      (ss_seq (ss_asg (i := 3) (by decide) (se_const rfl))
      (ss_seq (ss_if (st_test (se_op oi_lt (se_op oi_ixL se_var (se_const rfl)) (se_b1 bi_len (se_op oi_ixL se_var (se_const rfl))))) (ss_seq (ss_asg (i := 3) (by decide) (se_op oi_ixL (se_op oi_ixL se_var (se_const rfl)) (se_op oi_ixL se_var (se_const rfl))))
      (ss_setI (SE.sf (se_op oi_add (se_op oi_ixL se_var (se_const rfl)) (se_const rfl))) se_var (se_const rfl))) ss_nil)
      (ss_seq (ss_if (st_test (se_op oi_ge se_var (se_op oi_pow (se_const rfl) (se_const rfl)))) (ss_seq (ss_setI (SE.sf (se_op oi_div se_var se_var)) se_var (se_const rfl))
      (ss_ret (np := 2) (se_op oi_mod (se_b1 bi_int se_var) se_var))) ss_nil)
      (ss_seq (ss_setI (SE.sf (se_op oi_mod (se_b1 bi_int (se_op oi_add (se_op oi_mul (se_op oi_ixL se_var (se_const rfl)) (se_const rfl)) se_var)) (se_const rfl))) se_var (se_const rfl))
      (ss_ret (np := 2) (se_op oi_mod (se_b1 bi_int (se_op oi_div (se_op oi_mod (se_b1 bi_int (se_op oi_mul (se_op oi_ixL se_var (se_const rfl)) (se_const rfl))) (se_const rfl)) (se_const rfl))) se_var)))))))⟩
theorem ok__law_letters (S : Al P K mg cl) : ∃ f fd, FnOk P w K mg base CX0 2 f fd ["_law_box_here", "_law_many"] (spD cl D__law_letters) ∧ mg "_law_letters" = some (.ref f) ∧ PySem.W.keepIn K (.ref f) = true ∧ Binds K fd ["_law_box_here", "_law_many"] [] := by
  obtain ⟨f, fd, F, i, b⟩ := S.f__law_letters
  obtain ⟨f0, fd0, o0, i0, j0, b0⟩ := ok__law_take (P := P) (w := w) (base := base) S
  refine ⟨f, fd, ?_, i, F.kp, b⟩
  refine Fun.okD F sc__law_letters [] [0, 1] 4 Db__law_letters rfl (by decide) fun cdv A outer s H E hr => ?_
  have hr1 : Room 1 _ := hr.mono (by decide)
  exact ⟨_, pss_cons (ps_set (i := 2) sc__law_letters.nd rfl (Or.inl rfl) pe_str)
      (pss_cons (ps_set (i := 3) sc__law_letters.nd rfl (Or.inl rfl) (pe_lst pa_nil))
      (pss_cons (ps_for PassesOwn.never rfl (pi_range1 (by rfl) S.B.range_ (pa_cons (pv 1) pa_nil)) (pg_name (i := 4) sc__law_letters.nd rfl (Or.inl rfl)) (pss_cons (ps_set (i := 5) sc__law_letters.nd rfl (Or.inl rfl) (pe_call o0 hr1 rfl i0 j0 b0 .nil pass0 (pa_cons (pv 0) (pa_cons (pe_callB call_len_str (by rfl) S.B.len_ PySem.boot_len (pa_cons (pv 2) pa_nil)) pa_nil))))
      (pss_cons (ps_expr (pe_bm PySem.F.plainAttrs_list PySem.F.slot_list_append PySem.F.type_list_append mt_append (pv 3) (pa_cons (pe_ix ix_str (pv 2) (pv 5) (fun _ _ => rfl)) pa_nil)))
      (pss_one (ps_set (i := 2) sc__law_letters.nd rfl (Or.inl rfl) (pe_op op_add_str (pe_slice sl_str (pv 2) po_none (po_some (pv 5))) (pe_slice sl_str (pv 2) (po_some (pe_op op_add (pv 5) pe_int)) po_none)))))))
      (pss_one (ps_ret (pv 3))))),
    (ss_seq (ss_asg (i := 2) (by decide) (se_const rfl))
      (ss_seq (ss_asg (i := 3) (by decide) (se_lst sa_nil))
      (ss_seq (ss_for (si_range1 se_var) (sg_name (i := 4) (by decide)) (ss_seq (ss_asg (i := 5) (by decide) (se_call rfl (sr_cons se_var (sr_cons (se_b1 bi_lenS se_var) sr_nil))))
      (ss_seq (ss_expr (se_plc mp_append se_var (sa_cons (SE.sf (se_op oi_ixS se_var se_var)) sa_nil)))
      (ss_asg (i := 2) (by decide) (se_op oi_addS (se_slS se_var sp_none (sp_some se_var)) (se_slS se_var (sp_some (se_op oi_add se_var (se_const rfl))) sp_none))))))
      (ss_ret (np := 2) se_var))))⟩
theorem okg__law_second (S : Al P K mg cl) {f : Addr} {fd : FuncData} (F : Fun K "_law_second" "_law_second" s__law_second f fd) : FnOk P w K mg base CX0 1 f fd ["_law_which", "_law_one", "_law_two"] (spD cl D__law_second) := by
  refine Fun.okD F sc__law_second [] [0, 1, 2] 0 Db__law_second rfl (by decide) fun cdv A outer s H E hr => ?_
  exact ⟨_, pss_cons (ps_if (pt_cmpR op_eq (pv 0) pe_int (nomark _)) (pss_one ps_never) pss_nil)
      (pss_cons (ps_if (pt_cmpR op_eq (pv 0) pe_int (nomark _)) (pss_one ps_never) pss_nil)
      (pss_cons (ps_if (pt_cmpR op_eq (pv 0) pe_int (nomark _)) (pss_one ps_never) pss_nil)
      (pss_cons (ps_if (pt_cmpR op_eq (pv 0) pe_int (nomark _)) (pss_one ps_never) pss_nil)
      (pss_cons (ps_if (pt_cmpR op_eq (pv 0) pe_int (nomark _)) (pss_one ps_never) pss_nil)
      (pss_cons (ps_if (pt_cmpR op_eq (pv 0) pe_int (nomark _)) (pss_one ps_never) pss_nil)
      (pss_cons (ps_if (pt_cmpR op_eq (pv 0) pe_int (nomark _)) (pss_one ps_never) pss_nil)
      (pss_cons (ps_if (pt_cmpR op_eq (pv 0) pe_int (nomark _)) (pss_one ps_never) pss_nil)
      (pss_one ps_never)))))))),
    (ss_seq (ss_if (st_test (se_op oi_eq se_var (se_const rfl))) ss_never ss_nil)
      (ss_seq (ss_if (st_test (se_op oi_eq se_var (se_const rfl))) ss_never ss_nil)
      (ss_seq (ss_if (st_test (se_op oi_eq se_var (se_const rfl))) ss_never ss_nil)
      (ss_seq (ss_if (st_test (se_op oi_eq se_var (se_const rfl))) ss_never ss_nil)
      (ss_seq (ss_if (st_test (se_op oi_eq se_var (se_const rfl))) ss_never ss_nil)
      (ss_seq (ss_if (st_test (se_op oi_eq se_var (se_const rfl))) ss_never ss_nil)
      (ss_seq (ss_if (st_test (se_op oi_eq se_var (se_const rfl))) ss_never ss_nil)
      (ss_seq (ss_if (st_test (se_op oi_eq se_var (se_const rfl))) ss_never ss_nil)
      ss_never))))))))⟩
theorem bk__law_second (S : Al P K mg cl) : ∃ f fd, FnOk P w K mg base (L2N.CX P w) 3 f fd ["_law_which", "_law_one", "_law_two"] (spX cl D__law_second X__law_second_v2) ∧ mg "_law_second" = some (.ref f) ∧ PySem.W.keepIn K (.ref f) = true ∧ Binds K fd ["_law_which", "_law_one", "_law_two"] [] := by
  obtain ⟨f, fd, F, i, b⟩ := S.f__law_second
  refine ⟨f, fd, ?_, i, F.kp, b⟩
  refine Fun.okB F sc__law_second [] [0, 1, 2] 0 Xb__law_second_v2 (okg__law_second S F) (by decide) rfl (by decide) fun cdv A outer s H E hr => ?_
  have hr2 : Room 2 _ := hr.mono (by decide)
  exact ⟨_, pss_cons (ps_if (pt_cmpR op_eq (pv 0) pe_int (nomark _)) (pss_one (Eb.ps_raiseEr rfl S.e_SameWord.er hr2 (L2N.takes_of rfl rfl rfl rfl) (pa_cons (pv 1) pa_nil))) pss_nil)
      (pss_cons (ps_if (pt_cmpR op_eq (pv 0) pe_int (nomark _)) (pss_one (Eb.ps_raiseEr rfl S.e_UnknownClue.er hr2 (L2N.takes_of rfl rfl rfl rfl) (pa_cons (pv 1) pa_nil))) pss_nil)
      (pss_cons (ps_if (pt_cmpR op_eq (pv 0) pe_int (nomark _)) (pss_one (Eb.ps_raiseEr rfl S.e_BadPlace.er hr2 (L2N.takes_of rfl rfl rfl rfl) (pa_cons (pv 1) pa_nil))) pss_nil)
      (pss_cons (ps_if (pt_cmpR op_eq (pv 0) pe_int (nomark _)) (pss_one (Eb.ps_raiseEr rfl S.e_TooLong.er hr2 (L2N.takes_of rfl rfl rfl rfl) (pa_cons (pv 1) pa_nil))) pss_nil)
      (pss_cons (ps_if (pt_cmpR op_eq (pv 0) pe_int (nomark _)) (pss_one (Eb.ps_raiseEr rfl S.e_Melted.er hr2 (L2N.takes_of rfl rfl rfl rfl) (pa_cons (pv 1) (pa_cons (pv 2) pa_nil)))) pss_nil)
      (pss_cons (ps_if (pt_cmpR op_eq (pv 0) pe_int (nomark _)) (pss_one (Eb.ps_raiseEr0 rfl S.e_NothingToUndo.er hr2 (L2N.takes_of rfl rfl rfl rfl))) pss_nil)
      (pss_cons (ps_if (pt_cmpR op_eq (pv 0) pe_int (nomark _)) (pss_one (Eb.ps_raiseEr0 rfl S.e_NothingToRedo.er hr2 (L2N.takes_of rfl rfl rfl rfl))) pss_nil)
      (pss_cons (ps_if (pt_cmpR op_eq (pv 0) pe_int (nomark _)) (pss_one (Eb.ps_raiseEr rfl S.e_Refused.er hr2 (L2N.takes_of rfl rfl rfl rfl) (pa_cons (pv 1) pa_nil))) pss_nil)
      (pss_one (Eb.ps_raiseEr rfl S.e_BadLine.er hr2 (L2N.takes_of rfl rfl rfl rfl) (pa_cons (pv 1) pa_nil)))))))))),
    (ss_seq (ss_if (st_test (se_op oi_eq se_var (se_const rfl))) (ss_raise (c := 10) rfl (sr_cons se_var sr_nil)) ss_nil)
      (ss_seq (ss_if (st_test (se_op oi_eq se_var (se_const rfl))) (ss_raise (c := 11) rfl (sr_cons se_var sr_nil)) ss_nil)
      (ss_seq (ss_if (st_test (se_op oi_eq se_var (se_const rfl))) (ss_raise (c := 12) rfl (sr_cons se_var sr_nil)) ss_nil)
      (ss_seq (ss_if (st_test (se_op oi_eq se_var (se_const rfl))) (ss_raise (c := 13) rfl (sr_cons se_var sr_nil)) ss_nil)
      (ss_seq (ss_if (st_test (se_op oi_eq se_var (se_const rfl))) (ss_raise (c := 14) rfl (sr_cons se_var (sr_cons se_var sr_nil))) ss_nil)
      (ss_seq (ss_if (st_test (se_op oi_eq se_var (se_const rfl))) (ss_raise0 (c := 15) rfl) ss_nil)
      (ss_seq (ss_if (st_test (se_op oi_eq se_var (se_const rfl))) (ss_raise0 (c := 16) rfl) ss_nil)
      (ss_seq (ss_if (st_test (se_op oi_eq se_var (se_const rfl))) (ss_raise (c := 17) rfl (sr_cons se_var sr_nil)) ss_nil)
      (ss_raise (c := 18) rfl (sr_cons se_var sr_nil))))))))))⟩
theorem ok__law_late (S : Al P K mg cl) : ∃ f fd, FnOk P w K mg base CX0 4 f fd ["_law_which", "_law_one", "_law_two"] (spD cl D__law_late_v2) ∧ mg "_law_late" = some (.ref f) ∧ PySem.W.keepIn K (.ref f) = true ∧ Binds K fd ["_law_which", "_law_one", "_law_two"] [] := by
  obtain ⟨f, fd, F, i, b⟩ := S.f__law_late
  obtain ⟨f0, fd0, o0, i0, j0, b0⟩ := bk__law_second (P := P) (w := w) (base := base) S
  obtain ⟨fSI, fdSI, FSI, ISI, BSI⟩ := S.f__law_single
  refine ⟨f, fd, ?_, i, F.kp, b⟩
  refine Fun.okTry F sc__law_late [] [0, 1, 2] 1 3 Dq__law_late_v2 Dz__law_late_v2 Tb__law_late_v2 rfl (by decide) (by decide) fun cdv A outer s H E hr => ?_
  have hr1 : Room 1 _ := hr.mono (by decide)
  have hr3 : Room 3 _ := hr.mono (by decide)
  exact ⟨_, _, _, _, pss_cons (L2N.ps_try_clauses (i := 3) rfl rfl sc__law_late.nd rfl rfl takesF (fun W pn xe tk po => (pss_one (ps_expr (pe_call o0 hr3 rfl i0 j0 b0 .nil (passTry 4 tk) (pa_cons (pv 0) (pa_cons (pv 1) (pa_cons (pv 2) pa_nil)))))))
      (.cons ⟨rfl, by decide, .inl S.errG.e10⟩ (fun a oe cls d pn hz hf => pss_one (ps_ret (pe_lst (pa_cons pe_int (pa_cons (pe_xf S.e_SameWord.xf (S.e_SameWord.no _ (by simp)) hz.zc hf (pv 3)) (pa_cons (Eb.pe_single 3 (ok_single FSI S.errG) hr1 hz hf ISI FSI.kp BSI) pa_nil)))))) (.cons ⟨rfl, by decide, .inl S.errG.e11⟩ (fun a oe cls d pn hz hf => pss_one (ps_ret (pe_lst (pa_cons pe_int (pa_cons (pe_xf S.e_UnknownClue.xf (S.e_UnknownClue.no _ (by simp)) hz.zc hf (pv 3)) (pa_cons (Eb.pe_single 3 (ok_single FSI S.errG) hr1 hz hf ISI FSI.kp BSI) pa_nil)))))) (.cons ⟨rfl, by decide, .inl S.errG.e12⟩ (fun a oe cls d pn hz hf => pss_one (ps_ret (pe_lst (pa_cons pe_int (pa_cons (pe_xf S.e_BadPlace.xf (S.e_BadPlace.no _ (by simp)) hz.zc hf (pv 3)) (pa_cons (Eb.pe_single 3 (ok_single FSI S.errG) hr1 hz hf ISI FSI.kp BSI) pa_nil)))))) (.cons ⟨rfl, by decide, .inl S.errG.e13⟩ (fun a oe cls d pn hz hf => pss_one (ps_ret (pe_lst (pa_cons pe_int (pa_cons (pe_xf S.e_TooLong.xf (S.e_TooLong.no _ (by simp)) hz.zc hf (pv 3)) (pa_cons (Eb.pe_single 3 (ok_single FSI S.errG) hr1 hz hf ISI FSI.kp BSI) pa_nil)))))) (.cons ⟨rfl, by decide, .inl S.errG.e14⟩ (fun a oe cls d pn hz hf => pss_one (ps_ret (pe_lst (pa_cons pe_int (pa_cons (pe_xf S.e_Melted.xf (S.e_Melted.no _ (by simp)) hz.zc hf (pv 3)) (pa_cons (pe_xf S.e_Melted.xf (S.e_Melted.no _ (by simp)) hz.zc hf (pv 3)) (pa_cons (Eb.pe_single 3 (ok_single FSI S.errG) hr1 hz hf ISI FSI.kp BSI) pa_nil))))))) (.cons ⟨rfl, by decide, .inl S.errG.e15⟩ (fun a oe cls d pn hz hf => pss_one (ps_ret (pe_lst (pa_cons pe_int (pa_cons (Eb.pe_single 3 (ok_single FSI S.errG) hr1 hz hf ISI FSI.kp BSI) pa_nil))))) (.cons ⟨rfl, by decide, .inl S.errG.e16⟩ (fun a oe cls d pn hz hf => pss_one (ps_ret (pe_lst (pa_cons pe_int (pa_cons (Eb.pe_single 3 (ok_single FSI S.errG) hr1 hz hf ISI FSI.kp BSI) pa_nil))))) (.cons ⟨rfl, by decide, .inl S.errG.e17⟩ (fun a oe cls d pn hz hf => pss_one (ps_ret (pe_lst (pa_cons pe_int (pa_cons (pe_xf S.e_Refused.xf (S.e_Refused.no _ (by simp)) hz.zc hf (pv 3)) (pa_cons (Eb.pe_single 3 (ok_single FSI S.errG) hr1 hz hf ISI FSI.kp BSI) pa_nil)))))) (.cons ⟨rfl, by decide, .inl S.errG.e18⟩ (fun a oe cls d pn hz hf => pss_one (ps_ret (pe_lst (pa_cons pe_int (pa_cons (pe_xf S.e_BadLine.xf (S.e_BadLine.no _ (by simp)) hz.zc hf (pv 3)) (pa_cons (Eb.pe_single 3 (ok_single FSI S.errG) hr1 hz hf ISI FSI.kp BSI) pa_nil)))))) .nil))))))))))
    (pss_one (ps_ret (pe_lst pa_nil))),
    fun W => (ss_or (ss_expr (se_callX rfl (sr_cons se_var (sr_cons se_var (sr_cons se_var sr_nil))))) (bs_expr (be_call rfl (sr_cons se_var (sr_cons se_var (sr_cons se_var sr_nil)))))), (ss_ret (np := 3) (se_lst sa_nil)),
    (hd_cons (c := 10) (f := fun xs => .int 10 :: xs.getD 0 .non :: .bl true :: []) S.x_10_10 (fun c h _ => by
        by_cases e18 : c = 18
        · subst e18; exact S.x_18_10
        by_cases e17 : c = 17
        · subst e17; exact S.x_17_10
        by_cases e16 : c = 16
        · subst e16; exact S.x_16_10
        by_cases e15 : c = 15
        · subst e15; exact S.x_15_10
        by_cases e14 : c = 14
        · subst e14; exact S.x_14_10
        by_cases e13 : c = 13
        · subst e13; exact S.x_13_10
        by_cases e12 : c = 12
        · subst e12; exact S.x_12_10
        by_cases e11 : c = 11
        · subst e11; exact S.x_11_10
        simp [e18, e17, e16, e15, e14, e13, e12, e11] at h) (hs_ret (ha_cons (he_c (v := .int 10) (a := .int 10) rfl) (ha_cons (he_f (nm := "word") (k := 0) (fun vs h => match vs, h with | [_], _ => rfl) (by decide)) (ha_cons (he_s S.e_SameWord.kit) ha_nil))) (fun _ => by show 3 ≤ sizeLine; decide)) (hd_cons (c := 11) (f := fun xs => .int 11 :: xs.getD 0 .non :: .bl true :: []) S.x_11_11 (fun c h _ => by
        by_cases e18 : c = 18
        · subst e18; exact S.x_18_11
        by_cases e17 : c = 17
        · subst e17; exact S.x_17_11
        by_cases e16 : c = 16
        · subst e16; exact S.x_16_11
        by_cases e15 : c = 15
        · subst e15; exact S.x_15_11
        by_cases e14 : c = 14
        · subst e14; exact S.x_14_11
        by_cases e13 : c = 13
        · subst e13; exact S.x_13_11
        by_cases e12 : c = 12
        · subst e12; exact S.x_12_11
        simp [e18, e17, e16, e15, e14, e13, e12] at h) (hs_ret (ha_cons (he_c (v := .int 11) (a := .int 11) rfl) (ha_cons (he_f (nm := "number") (k := 0) (fun vs h => match vs, h with | [_], _ => rfl) (by decide)) (ha_cons (he_s S.e_UnknownClue.kit) ha_nil))) (fun _ => by show 3 ≤ sizeLine; decide)) (hd_cons (c := 12) (f := fun xs => .int 12 :: xs.getD 0 .non :: .bl true :: []) S.x_12_12 (fun c h _ => by
        by_cases e18 : c = 18
        · subst e18; exact S.x_18_12
        by_cases e17 : c = 17
        · subst e17; exact S.x_17_12
        by_cases e16 : c = 16
        · subst e16; exact S.x_16_12
        by_cases e15 : c = 15
        · subst e15; exact S.x_15_12
        by_cases e14 : c = 14
        · subst e14; exact S.x_14_12
        by_cases e13 : c = 13
        · subst e13; exact S.x_13_12
        simp [e18, e17, e16, e15, e14, e13] at h) (hs_ret (ha_cons (he_c (v := .int 12) (a := .int 12) rfl) (ha_cons (he_f (nm := "place") (k := 0) (fun vs h => match vs, h with | [_], _ => rfl) (by decide)) (ha_cons (he_s S.e_BadPlace.kit) ha_nil))) (fun _ => by show 3 ≤ sizeLine; decide)) (hd_cons (c := 13) (f := fun xs => .int 13 :: xs.getD 0 .non :: .bl true :: []) S.x_13_13 (fun c h _ => by
        by_cases e18 : c = 18
        · subst e18; exact S.x_18_13
        by_cases e17 : c = 17
        · subst e17; exact S.x_17_13
        by_cases e16 : c = 16
        · subst e16; exact S.x_16_13
        by_cases e15 : c = 15
        · subst e15; exact S.x_15_13
        by_cases e14 : c = 14
        · subst e14; exact S.x_14_13
        simp [e18, e17, e16, e15, e14] at h) (hs_ret (ha_cons (he_c (v := .int 13) (a := .int 13) rfl) (ha_cons (he_f (nm := "limit") (k := 0) (fun vs h => match vs, h with | [_], _ => rfl) (by decide)) (ha_cons (he_s S.e_TooLong.kit) ha_nil))) (fun _ => by show 3 ≤ sizeLine; decide)) (hd_cons (c := 14) (f := fun xs => .int 14 :: xs.getD 0 .non :: xs.getD 1 .non :: .bl true :: []) S.x_14_14 (fun c h _ => by
        by_cases e18 : c = 18
        · subst e18; exact S.x_18_14
        by_cases e17 : c = 17
        · subst e17; exact S.x_17_14
        by_cases e16 : c = 16
        · subst e16; exact S.x_16_14
        by_cases e15 : c = 15
        · subst e15; exact S.x_15_14
        simp [e18, e17, e16, e15] at h) (hs_ret (ha_cons (he_c (v := .int 14) (a := .int 14) rfl) (ha_cons (he_f (nm := "first") (k := 0) (fun vs h => match vs, h with | [_, _], _ => rfl) (by decide)) (ha_cons (he_f (nm := "second") (k := 1) (fun vs h => match vs, h with | [_, _], _ => rfl) (by decide)) (ha_cons (he_s S.e_Melted.kit) ha_nil)))) (fun _ => by show 4 ≤ sizeLine; decide)) (hd_cons (c := 15) (f := fun xs => .int 15 :: .bl true :: []) S.x_15_15 (fun c h _ => by
        by_cases e18 : c = 18
        · subst e18; exact S.x_18_15
        by_cases e17 : c = 17
        · subst e17; exact S.x_17_15
        by_cases e16 : c = 16
        · subst e16; exact S.x_16_15
        simp [e18, e17, e16] at h) (hs_ret (ha_cons (he_c (v := .int 15) (a := .int 15) rfl) (ha_cons (he_s S.e_NothingToUndo.kit) ha_nil)) (fun _ => by show 2 ≤ sizeLine; decide)) (hd_cons (c := 16) (f := fun xs => .int 16 :: .bl true :: []) S.x_16_16 (fun c h _ => by
        by_cases e18 : c = 18
        · subst e18; exact S.x_18_16
        by_cases e17 : c = 17
        · subst e17; exact S.x_17_16
        simp [e18, e17] at h) (hs_ret (ha_cons (he_c (v := .int 16) (a := .int 16) rfl) (ha_cons (he_s S.e_NothingToRedo.kit) ha_nil)) (fun _ => by show 2 ≤ sizeLine; decide)) (hd_cons (c := 17) (f := fun xs => .int 17 :: xs.getD 0 .non :: .bl true :: []) S.x_17_17 (fun c h _ => by
        by_cases e18 : c = 18
        · subst e18; exact S.x_18_17
        simp [e18] at h) (hs_ret (ha_cons (he_c (v := .int 17) (a := .int 17) rfl) (ha_cons (he_f (nm := "index") (k := 0) (fun vs h => match vs, h with | [_], _ => rfl) (by decide)) (ha_cons (he_s S.e_Refused.kit) ha_nil))) (fun _ => by show 3 ≤ sizeLine; decide)) (hd_cons (c := 18) (f := fun xs => .int 18 :: xs.getD 0 .non :: .bl true :: []) S.x_18_18 (fun c h _ => by cases h) (hs_ret (ha_cons (he_c (v := .int 18) (a := .int 18) rfl) (ha_cons (he_f (nm := "line") (k := 0) (fun vs h => match vs, h with | [_], _ => rfl) (by decide)) (ha_cons (he_s S.e_BadLine.kit) ha_nil))) (fun _ => by show 3 ≤ sizeLine; decide)) hd_nil)))))))))⟩
theorem okg__law_first (S : Al P K mg cl) {f : Addr} {fd : FuncData} (F : Fun K "_law_first" "_law_first" s__law_first f fd) : FnOk P w K mg base CX0 1 f fd ["_law_which", "_law_one", "_law_two", "_law_text"] (spD cl D__law_first) := by
  refine Fun.okD F sc__law_first [] [0, 1, 2, 3] 0 Db__law_first rfl (by decide) fun cdv A outer s H E hr => ?_
  exact ⟨_, pss_cons (ps_if (pt_cmpR op_eq (pv 0) pe_int (nomark _)) (pss_one ps_never) pss_nil)
      (pss_cons (ps_if (pt_cmpR op_eq (pv 0) pe_int (nomark _)) (pss_one ps_never) pss_nil)
      (pss_cons (ps_if (pt_cmpR op_eq (pv 0) pe_int (nomark _)) (pss_one ps_never) pss_nil)
      (pss_cons (ps_if (pt_cmpR op_eq (pv 0) pe_int (nomark _)) (pss_one ps_never) pss_nil)
      (pss_cons (ps_if (pt_cmpR op_eq (pv 0) pe_int (nomark _)) (pss_one ps_never) pss_nil)
      (pss_cons (ps_if (pt_cmpR op_eq (pv 0) pe_int (nomark _)) (pss_one ps_never) pss_nil)
      (pss_cons (ps_if (pt_cmpR op_eq (pv 0) pe_int (nomark _)) (pss_one ps_never) pss_nil)
      (pss_cons (ps_if (pt_cmpR op_eq (pv 0) pe_int (nomark _)) (pss_one ps_never) pss_nil)
      (pss_cons (ps_if (pt_cmpR op_eq (pv 0) pe_int (nomark _)) (pss_one ps_never) pss_nil)
      (pss_one ps_never))))))))),
    (ss_seq (ss_if (st_test (se_op oi_eq se_var (se_const rfl))) ss_never ss_nil)
      (ss_seq (ss_if (st_test (se_op oi_eq se_var (se_const rfl))) ss_never ss_nil)
      (ss_seq (ss_if (st_test (se_op oi_eq se_var (se_const rfl))) ss_never ss_nil)
      (ss_seq (ss_if (st_test (se_op oi_eq se_var (se_const rfl))) ss_never ss_nil)
      (ss_seq (ss_if (st_test (se_op oi_eq se_var (se_const rfl))) ss_never ss_nil)
      (ss_seq (ss_if (st_test (se_op oi_eq se_var (se_const rfl))) ss_never ss_nil)
      (ss_seq (ss_if (st_test (se_op oi_eq se_var (se_const rfl))) ss_never ss_nil)
      (ss_seq (ss_if (st_test (se_op oi_eq se_var (se_const rfl))) ss_never ss_nil)
      (ss_seq (ss_if (st_test (se_op oi_eq se_var (se_const rfl))) ss_never ss_nil)
      ss_never)))))))))⟩
theorem bk__law_first (S : Al P K mg cl) : ∃ f fd, FnOk P w K mg base (L2N.CX P w) 3 f fd ["_law_which", "_law_one", "_law_two", "_law_text"] (spX cl D__law_first X__law_first) ∧ mg "_law_first" = some (.ref f) ∧ PySem.W.keepIn K (.ref f) = true ∧ Binds K fd ["_law_which", "_law_one", "_law_two", "_law_text"] [] := by
  obtain ⟨f, fd, F, i, b⟩ := S.f__law_first
  refine ⟨f, fd, ?_, i, F.kp, b⟩
  refine Fun.okB F sc__law_first [] [0, 1, 2, 3] 0 Xb__law_first (okg__law_first S F) (by decide) rfl (by decide) fun cdv A outer s H E hr => ?_
  have hr2 : Room 2 _ := hr.mono (by decide)
  exact ⟨_, pss_cons (ps_if (pt_cmpR op_eq (pv 0) pe_int (nomark _)) (pss_one (Eb.ps_raiseEr rfl S.e_BadSize.er hr2 (L2N.takes_of rfl rfl rfl rfl) (pa_cons (pv 1) pa_nil))) pss_nil)
      (pss_cons (ps_if (pt_cmpR op_eq (pv 0) pe_int (nomark _)) (pss_one (Eb.ps_raiseEr rfl S.e_BadTable.er hr2 (L2N.takes_of rfl rfl rfl rfl) (pa_cons (pv 1) pa_nil))) pss_nil)
      (pss_cons (ps_if (pt_cmpR op_eq (pv 0) pe_int (nomark _)) (pss_one (Eb.ps_raiseEr rfl S.e_UnknownWord.er hr2 (L2N.takes_of rfl rfl rfl rfl) (pa_cons (pv 1) pa_nil))) pss_nil)
      (pss_cons (ps_if (pt_cmpR op_eq (pv 0) pe_int (nomark _)) (pss_one (Eb.ps_raiseEr rfl S.e_SizeMismatch.er hr2 (L2N.takes_of rfl rfl rfl rfl) (pa_cons (pv 1) (pa_cons (pv 2) pa_nil)))) pss_nil)
      (pss_cons (ps_if (pt_cmpR op_eq (pv 0) pe_int (nomark _)) (pss_one (Eb.ps_raiseEr rfl S.e_BadCount.er hr2 (L2N.takes_of rfl rfl rfl rfl) (pa_cons (pv 1) pa_nil))) pss_nil)
      (pss_cons (ps_if (pt_cmpR op_eq (pv 0) pe_int (nomark _)) (pss_one (Eb.ps_raiseEr rfl S.e_BadPerson.er hr2 (L2N.takes_of rfl rfl rfl rfl) (pa_cons (pv 3) pa_nil))) pss_nil)
      (pss_cons (ps_if (pt_cmpR op_eq (pv 0) pe_int (nomark _)) (pss_one (Eb.ps_raiseEr rfl S.e_BadLetter.er hr2 (L2N.takes_of rfl rfl rfl rfl) (pa_cons (pv 3) pa_nil))) pss_nil)
      (pss_cons (ps_if (pt_cmpR op_eq (pv 0) pe_int (nomark _)) (pss_one (Eb.ps_raiseEr rfl S.e_UnknownPerson.er hr2 (L2N.takes_of rfl rfl rfl rfl) (pa_cons (pv 3) (pa_cons (pv 2) pa_nil)))) pss_nil)
      (pss_cons (ps_if (pt_cmpR op_eq (pv 0) pe_int (nomark _)) (pss_one (Eb.ps_raiseEr rfl S.e_TooMany.er hr2 (L2N.takes_of rfl rfl rfl rfl) (pa_cons (pv 1) pa_nil))) pss_nil)
      (pss_one (Eb.ps_raiseEr rfl S.e_BadPattern.er hr2 (L2N.takes_of rfl rfl rfl rfl) (pa_cons (pv 1) pa_nil))))))))))),
    (ss_seq (ss_if (st_test (se_op oi_eq se_var (se_const rfl))) (ss_raise (c := 0) rfl (sr_cons se_var sr_nil)) ss_nil)
      (ss_seq (ss_if (st_test (se_op oi_eq se_var (se_const rfl))) (ss_raise (c := 1) rfl (sr_cons se_var sr_nil)) ss_nil)
      (ss_seq (ss_if (st_test (se_op oi_eq se_var (se_const rfl))) (ss_raise (c := 2) rfl (sr_cons se_var sr_nil)) ss_nil)
      (ss_seq (ss_if (st_test (se_op oi_eq se_var (se_const rfl))) (ss_raise (c := 3) rfl (sr_cons se_var (sr_cons se_var sr_nil))) ss_nil)
      (ss_seq (ss_if (st_test (se_op oi_eq se_var (se_const rfl))) (ss_raise (c := 4) rfl (sr_cons se_var sr_nil)) ss_nil)
      (ss_seq (ss_if (st_test (se_op oi_eq se_var (se_const rfl))) (ss_raise (c := 5) rfl (sr_cons se_var sr_nil)) ss_nil)
      (ss_seq (ss_if (st_test (se_op oi_eq se_var (se_const rfl))) (ss_raise (c := 6) rfl (sr_cons se_var sr_nil)) ss_nil)
      (ss_seq (ss_if (st_test (se_op oi_eq se_var (se_const rfl))) (ss_raise (c := 7) rfl (sr_cons se_var (sr_cons se_var sr_nil))) ss_nil)
      (ss_seq (ss_if (st_test (se_op oi_eq se_var (se_const rfl))) (ss_raise (c := 8) rfl (sr_cons se_var sr_nil)) ss_nil)
      (ss_raise (c := 9) rfl (sr_cons se_var sr_nil)))))))))))⟩
theorem ok__law_early (S : Al P K mg cl) : ∃ f fd, FnOk P w K mg base CX0 4 f fd ["_law_which", "_law_one", "_law_two", "_law_text"] (spD cl D__law_early) ∧ mg "_law_early" = some (.ref f) ∧ PySem.W.keepIn K (.ref f) = true ∧ Binds K fd ["_law_which", "_law_one", "_law_two", "_law_text"] [] := by
  obtain ⟨f, fd, F, i, b⟩ := S.f__law_early
  obtain ⟨f0, fd0, o0, i0, j0, b0⟩ := bk__law_first (P := P) (w := w) (base := base) S
  obtain ⟨fSI, fdSI, FSI, ISI, BSI⟩ := S.f__law_single
  refine ⟨f, fd, ?_, i, F.kp, b⟩
  refine Fun.okTry F sc__law_early [] [0, 1, 2, 3] 1 4 Dq__law_early Dz__law_early Tb__law_early rfl (by decide) (by decide) fun cdv A outer s H E hr => ?_
  have hr1 : Room 1 _ := hr.mono (by decide)
  have hr3 : Room 3 _ := hr.mono (by decide)
  exact ⟨_, _, _, _, pss_cons (L2N.ps_try_clauses (i := 4) rfl rfl sc__law_early.nd rfl rfl takesF (fun W pn xe tk po => (pss_one (ps_expr (pe_call o0 hr3 rfl i0 j0 b0 .nil (passTry 5 tk) (pa_cons (pv 0) (pa_cons (pv 1) (pa_cons (pv 2) (pa_cons (pv 3) pa_nil))))))))
      (.cons ⟨rfl, by decide, .inl S.errG.e0⟩ (fun a oe cls d pn hz hf => pss_one (ps_ret (pe_lst (pa_cons pe_int (pa_cons (pe_xf S.e_BadSize.xf (S.e_BadSize.no _ (by simp)) hz.zc hf (pv 4)) (pa_cons (Eb.pe_single 4 (ok_single FSI S.errG) hr1 hz hf ISI FSI.kp BSI) pa_nil)))))) (.cons ⟨rfl, by decide, .inl S.errG.e1⟩ (fun a oe cls d pn hz hf => pss_one (ps_ret (pe_lst (pa_cons pe_int (pa_cons (pe_xf S.e_BadTable.xf (S.e_BadTable.no _ (by simp)) hz.zc hf (pv 4)) (pa_cons (Eb.pe_single 4 (ok_single FSI S.errG) hr1 hz hf ISI FSI.kp BSI) pa_nil)))))) (.cons ⟨rfl, by decide, .inl S.errG.e2⟩ (fun a oe cls d pn hz hf => pss_one (ps_ret (pe_lst (pa_cons pe_int (pa_cons (pe_xf S.e_UnknownWord.xf (S.e_UnknownWord.no _ (by simp)) hz.zc hf (pv 4)) (pa_cons (Eb.pe_single 4 (ok_single FSI S.errG) hr1 hz hf ISI FSI.kp BSI) pa_nil)))))) (.cons ⟨rfl, by decide, .inl S.errG.e3⟩ (fun a oe cls d pn hz hf => pss_one (ps_ret (pe_lst (pa_cons pe_int (pa_cons (pe_xf S.e_SizeMismatch.xf (S.e_SizeMismatch.no _ (by simp)) hz.zc hf (pv 4)) (pa_cons (pe_xf S.e_SizeMismatch.xf (S.e_SizeMismatch.no _ (by simp)) hz.zc hf (pv 4)) (pa_cons (Eb.pe_single 4 (ok_single FSI S.errG) hr1 hz hf ISI FSI.kp BSI) pa_nil))))))) (.cons ⟨rfl, by decide, .inl S.errG.e4⟩ (fun a oe cls d pn hz hf => pss_one (ps_ret (pe_lst (pa_cons pe_int (pa_cons (pe_xf S.e_BadCount.xf (S.e_BadCount.no _ (by simp)) hz.zc hf (pv 4)) (pa_cons (Eb.pe_single 4 (ok_single FSI S.errG) hr1 hz hf ISI FSI.kp BSI) pa_nil)))))) (.cons ⟨rfl, by decide, .inl S.errG.e5⟩ (fun a oe cls d pn hz hf => pss_one (ps_ret (pe_lst (pa_cons pe_int (pa_cons (pe_xf S.e_BadPerson.xf (S.e_BadPerson.no _ (by simp)) hz.zc hf (pv 4)) (pa_cons (Eb.pe_single 4 (ok_single FSI S.errG) hr1 hz hf ISI FSI.kp BSI) pa_nil)))))) (.cons ⟨rfl, by decide, .inl S.errG.e6⟩ (fun a oe cls d pn hz hf => pss_one (ps_ret (pe_lst (pa_cons pe_int (pa_cons (pe_xf S.e_BadLetter.xf (S.e_BadLetter.no _ (by simp)) hz.zc hf (pv 4)) (pa_cons (Eb.pe_single 4 (ok_single FSI S.errG) hr1 hz hf ISI FSI.kp BSI) pa_nil)))))) (.cons ⟨rfl, by decide, .inl S.errG.e7⟩ (fun a oe cls d pn hz hf => pss_one (ps_ret (pe_lst (pa_cons pe_int (pa_cons (pe_xf S.e_UnknownPerson.xf (S.e_UnknownPerson.no _ (by simp)) hz.zc hf (pv 4)) (pa_cons (pe_xf S.e_UnknownPerson.xf (S.e_UnknownPerson.no _ (by simp)) hz.zc hf (pv 4)) (pa_cons (Eb.pe_single 4 (ok_single FSI S.errG) hr1 hz hf ISI FSI.kp BSI) pa_nil))))))) (.cons ⟨rfl, by decide, .inl S.errG.e8⟩ (fun a oe cls d pn hz hf => pss_one (ps_ret (pe_lst (pa_cons pe_int (pa_cons (pe_xf S.e_TooMany.xf (S.e_TooMany.no _ (by simp)) hz.zc hf (pv 4)) (pa_cons (Eb.pe_single 4 (ok_single FSI S.errG) hr1 hz hf ISI FSI.kp BSI) pa_nil)))))) (.cons ⟨rfl, by decide, .inl S.errG.e9⟩ (fun a oe cls d pn hz hf => pss_one (ps_ret (pe_lst (pa_cons pe_int (pa_cons (pe_xf S.e_BadPattern.xf (S.e_BadPattern.no _ (by simp)) hz.zc hf (pv 4)) (pa_cons (Eb.pe_single 4 (ok_single FSI S.errG) hr1 hz hf ISI FSI.kp BSI) pa_nil)))))) .nil)))))))))))
    (pss_one (ps_ret (pe_lst pa_nil))),
    fun W => (ss_or (ss_expr (se_callX rfl (sr_cons se_var (sr_cons se_var (sr_cons se_var (sr_cons se_var sr_nil)))))) (bs_expr (be_call rfl (sr_cons se_var (sr_cons se_var (sr_cons se_var (sr_cons se_var sr_nil))))))), (ss_ret (np := 4) (se_lst sa_nil)),
    (hd_cons (c := 0) (f := fun xs => .int 0 :: xs.getD 0 .non :: .bl true :: []) S.x_0_0 (fun c h _ => by
        by_cases e9 : c = 9
        · subst e9; exact S.x_9_0
        by_cases e8 : c = 8
        · subst e8; exact S.x_8_0
        by_cases e7 : c = 7
        · subst e7; exact S.x_7_0
        by_cases e6 : c = 6
        · subst e6; exact S.x_6_0
        by_cases e5 : c = 5
        · subst e5; exact S.x_5_0
        by_cases e4 : c = 4
        · subst e4; exact S.x_4_0
        by_cases e3 : c = 3
        · subst e3; exact S.x_3_0
        by_cases e2 : c = 2
        · subst e2; exact S.x_2_0
        by_cases e1 : c = 1
        · subst e1; exact S.x_1_0
        simp [e9, e8, e7, e6, e5, e4, e3, e2, e1] at h) (hs_ret (ha_cons (he_c (v := .int 0) (a := .int 0) rfl) (ha_cons (he_f (nm := "size") (k := 0) (fun vs h => match vs, h with | [_], _ => rfl) (by decide)) (ha_cons (he_s S.e_BadSize.kit) ha_nil))) (fun _ => by show 3 ≤ sizeLine; decide)) (hd_cons (c := 1) (f := fun xs => .int 1 :: xs.getD 0 .non :: .bl true :: []) S.x_1_1 (fun c h _ => by
        by_cases e9 : c = 9
        · subst e9; exact S.x_9_1
        by_cases e8 : c = 8
        · subst e8; exact S.x_8_1
        by_cases e7 : c = 7
        · subst e7; exact S.x_7_1
        by_cases e6 : c = 6
        · subst e6; exact S.x_6_1
        by_cases e5 : c = 5
        · subst e5; exact S.x_5_1
        by_cases e4 : c = 4
        · subst e4; exact S.x_4_1
        by_cases e3 : c = 3
        · subst e3; exact S.x_3_1
        by_cases e2 : c = 2
        · subst e2; exact S.x_2_1
        simp [e9, e8, e7, e6, e5, e4, e3, e2] at h) (hs_ret (ha_cons (he_c (v := .int 1) (a := .int 1) rfl) (ha_cons (he_f (nm := "index") (k := 0) (fun vs h => match vs, h with | [_], _ => rfl) (by decide)) (ha_cons (he_s S.e_BadTable.kit) ha_nil))) (fun _ => by show 3 ≤ sizeLine; decide)) (hd_cons (c := 2) (f := fun xs => .int 2 :: xs.getD 0 .non :: .bl true :: []) S.x_2_2 (fun c h _ => by
        by_cases e9 : c = 9
        · subst e9; exact S.x_9_2
        by_cases e8 : c = 8
        · subst e8; exact S.x_8_2
        by_cases e7 : c = 7
        · subst e7; exact S.x_7_2
        by_cases e6 : c = 6
        · subst e6; exact S.x_6_2
        by_cases e5 : c = 5
        · subst e5; exact S.x_5_2
        by_cases e4 : c = 4
        · subst e4; exact S.x_4_2
        by_cases e3 : c = 3
        · subst e3; exact S.x_3_2
        simp [e9, e8, e7, e6, e5, e4, e3] at h) (hs_ret (ha_cons (he_c (v := .int 2) (a := .int 2) rfl) (ha_cons (he_f (nm := "word") (k := 0) (fun vs h => match vs, h with | [_], _ => rfl) (by decide)) (ha_cons (he_s S.e_UnknownWord.kit) ha_nil))) (fun _ => by show 3 ≤ sizeLine; decide)) (hd_cons (c := 3) (f := fun xs => .int 3 :: xs.getD 0 .non :: xs.getD 1 .non :: .bl true :: []) S.x_3_3 (fun c h _ => by
        by_cases e9 : c = 9
        · subst e9; exact S.x_9_3
        by_cases e8 : c = 8
        · subst e8; exact S.x_8_3
        by_cases e7 : c = 7
        · subst e7; exact S.x_7_3
        by_cases e6 : c = 6
        · subst e6; exact S.x_6_3
        by_cases e5 : c = 5
        · subst e5; exact S.x_5_3
        by_cases e4 : c = 4
        · subst e4; exact S.x_4_3
        simp [e9, e8, e7, e6, e5, e4] at h) (hs_ret (ha_cons (he_c (v := .int 3) (a := .int 3) rfl) (ha_cons (he_f (nm := "first") (k := 0) (fun vs h => match vs, h with | [_, _], _ => rfl) (by decide)) (ha_cons (he_f (nm := "second") (k := 1) (fun vs h => match vs, h with | [_, _], _ => rfl) (by decide)) (ha_cons (he_s S.e_SizeMismatch.kit) ha_nil)))) (fun _ => by show 4 ≤ sizeLine; decide)) (hd_cons (c := 4) (f := fun xs => .int 4 :: xs.getD 0 .non :: .bl true :: []) S.x_4_4 (fun c h _ => by
        by_cases e9 : c = 9
        · subst e9; exact S.x_9_4
        by_cases e8 : c = 8
        · subst e8; exact S.x_8_4
        by_cases e7 : c = 7
        · subst e7; exact S.x_7_4
        by_cases e6 : c = 6
        · subst e6; exact S.x_6_4
        by_cases e5 : c = 5
        · subst e5; exact S.x_5_4
        simp [e9, e8, e7, e6, e5] at h) (hs_ret (ha_cons (he_c (v := .int 4) (a := .int 4) rfl) (ha_cons (he_f (nm := "count") (k := 0) (fun vs h => match vs, h with | [_], _ => rfl) (by decide)) (ha_cons (he_s S.e_BadCount.kit) ha_nil))) (fun _ => by show 3 ≤ sizeLine; decide)) (hd_cons (c := 5) (f := fun xs => .int 5 :: xs.getD 0 .non :: .bl true :: []) S.x_5_5 (fun c h _ => by
        by_cases e9 : c = 9
        · subst e9; exact S.x_9_5
        by_cases e8 : c = 8
        · subst e8; exact S.x_8_5
        by_cases e7 : c = 7
        · subst e7; exact S.x_7_5
        by_cases e6 : c = 6
        · subst e6; exact S.x_6_5
        simp [e9, e8, e7, e6] at h) (hs_ret (ha_cons (he_c (v := .int 5) (a := .int 5) rfl) (ha_cons (he_f (nm := "part") (k := 0) (fun vs h => match vs, h with | [_], _ => rfl) (by decide)) (ha_cons (he_s S.e_BadPerson.kit) ha_nil))) (fun _ => by show 3 ≤ sizeLine; decide)) (hd_cons (c := 6) (f := fun xs => .int 6 :: xs.getD 0 .non :: .bl true :: []) S.x_6_6 (fun c h _ => by
        by_cases e9 : c = 9
        · subst e9; exact S.x_9_6
        by_cases e8 : c = 8
        · subst e8; exact S.x_8_6
        by_cases e7 : c = 7
        · subst e7; exact S.x_7_6
        simp [e9, e8, e7] at h) (hs_ret (ha_cons (he_c (v := .int 6) (a := .int 6) rfl) (ha_cons (he_f (nm := "letter") (k := 0) (fun vs h => match vs, h with | [_], _ => rfl) (by decide)) (ha_cons (he_s S.e_BadLetter.kit) ha_nil))) (fun _ => by show 3 ≤ sizeLine; decide)) (hd_cons (c := 7) (f := fun xs => .int 7 :: xs.getD 0 .non :: xs.getD 1 .non :: .bl true :: []) S.x_7_7 (fun c h _ => by
        by_cases e9 : c = 9
        · subst e9; exact S.x_9_7
        by_cases e8 : c = 8
        · subst e8; exact S.x_8_7
        simp [e9, e8] at h) (hs_ret (ha_cons (he_c (v := .int 7) (a := .int 7) rfl) (ha_cons (he_f (nm := "letter") (k := 0) (fun vs h => match vs, h with | [_, _], _ => rfl) (by decide)) (ha_cons (he_f (nm := "place") (k := 1) (fun vs h => match vs, h with | [_, _], _ => rfl) (by decide)) (ha_cons (he_s S.e_UnknownPerson.kit) ha_nil)))) (fun _ => by show 4 ≤ sizeLine; decide)) (hd_cons (c := 8) (f := fun xs => .int 8 :: xs.getD 0 .non :: .bl true :: []) S.x_8_8 (fun c h _ => by
        by_cases e9 : c = 9
        · subst e9; exact S.x_9_8
        simp [e9] at h) (hs_ret (ha_cons (he_c (v := .int 8) (a := .int 8) rfl) (ha_cons (he_f (nm := "limit") (k := 0) (fun vs h => match vs, h with | [_], _ => rfl) (by decide)) (ha_cons (he_s S.e_TooMany.kit) ha_nil))) (fun _ => by show 3 ≤ sizeLine; decide)) (hd_cons (c := 9) (f := fun xs => .int 9 :: xs.getD 0 .non :: .bl true :: []) S.x_9_9 (fun c h _ => by cases h) (hs_ret (ha_cons (he_c (v := .int 9) (a := .int 9) rfl) (ha_cons (he_f (nm := "place") (k := 0) (fun vs h => match vs, h with | [_], _ => rfl) (by decide)) (ha_cons (he_s S.e_BadPattern.kit) ha_nil))) (fun _ => by show 3 ≤ sizeLine; decide)) hd_nil))))))))))⟩
theorem ok__law_as_base (S : Al P K mg cl) : ∃ f fd, FnOk P w K mg base CX0 4 f fd ["_law_which", "_law_one", "_law_two", "_law_text"] (spD cl D__law_as_base_v2) ∧ mg "_law_as_base" = some (.ref f) ∧ PySem.W.keepIn K (.ref f) = true ∧ Binds K fd ["_law_which", "_law_one", "_law_two", "_law_text"] [] := by
  obtain ⟨f, fd, F, i, b⟩ := S.f__law_as_base
  obtain ⟨f0, fd0, o0, i0, j0, b0⟩ := bk__law_first (P := P) (w := w) (base := base) S
  obtain ⟨f1, fd1, o1, i1, j1, b1⟩ := bk__law_second (P := P) (w := w) (base := base) S
  refine ⟨f, fd, ?_, i, F.kp, b⟩
  refine Fun.okTryB F sc__law_as_base [] [0, 1, 2, 3] 1 4 Dq__law_as_base_v2 Dz__law_as_base_v2 Tb__law_as_base_v2 rfl (by decide) (by decide) fun cdv A outer s H E hr => ?_
  have hr3 : Room 3 _ := hr.mono (by decide)
  exact ⟨_, _, _, _, pss_cons (L2N.ps_try_clauses (i := 4) rfl rfl sc__law_as_base.nd rfl rfl takesF (fun W pn xe tk po => (pss_one (ps_if (pt_cmpR op_lt (pv 0) pe_int (nomark _)) (pss_one (ps_expr (pe_call o0 hr3 rfl i0 j0 b0 .nil (passTry 5 tk) (pa_cons (pv 0) (pa_cons (pv 1) (pa_cons (pv 2) (pa_cons (pv 3) pa_nil))))))) (pss_one (ps_expr (pe_call o1 hr3 rfl i1 j1 b1 .nil (passTry 5 tk) (pa_cons (pv 0) (pa_cons (pv 1) (pa_cons (pv 2) pa_nil)))))))))
      (.cons ⟨rfl, by decide, .inl S.errG.m⟩ (fun a oe cls d pn hz hf => pss_one (ps_ret (Eb.pe_isV 4 hz hf S.errG.i S.errG.v))) .nil))
    (pss_one (ps_ret pe_bl)),
    fun W => (ss_if (st_test (se_op oi_lt se_var (se_const rfl))) (ss_or (ss_expr (se_callX rfl (sr_cons se_var (sr_cons se_var (sr_cons se_var (sr_cons se_var sr_nil)))))) (bs_expr (be_call rfl (sr_cons se_var (sr_cons se_var (sr_cons se_var (sr_cons se_var sr_nil))))))) (ss_or (ss_expr (se_callX rfl (sr_cons se_var (sr_cons se_var (sr_cons se_var sr_nil))))) (bs_expr (be_call rfl (sr_cons se_var (sr_cons se_var (sr_cons se_var sr_nil))))))), (ss_ret (np := 4) (se_const rfl)),
    (hdb_base (fun c h => by
        have h : c < 19 := of_decide_eq_true h
        by_cases e0 : c = 0
        · subst e0; exact S.x_0_M
        by_cases e1 : c = 1
        · subst e1; exact S.x_1_M
        by_cases e2 : c = 2
        · subst e2; exact S.x_2_M
        by_cases e3 : c = 3
        · subst e3; exact S.x_3_M
        by_cases e4 : c = 4
        · subst e4; exact S.x_4_M
        by_cases e5 : c = 5
        · subst e5; exact S.x_5_M
        by_cases e6 : c = 6
        · subst e6; exact S.x_6_M
        by_cases e7 : c = 7
        · subst e7; exact S.x_7_M
        by_cases e8 : c = 8
        · subst e8; exact S.x_8_M
        by_cases e9 : c = 9
        · subst e9; exact S.x_9_M
        by_cases e10 : c = 10
        · subst e10; exact S.x_10_M
        by_cases e11 : c = 11
        · subst e11; exact S.x_11_M
        by_cases e12 : c = 12
        · subst e12; exact S.x_12_M
        by_cases e13 : c = 13
        · subst e13; exact S.x_13_M
        by_cases e14 : c = 14
        · subst e14; exact S.x_14_M
        by_cases e15 : c = 15
        · subst e15; exact S.x_15_M
        by_cases e16 : c = 16
        · subst e16; exact S.x_16_M
        by_cases e17 : c = 17
        · subst e17; exact S.x_17_M
        by_cases e18 : c = 18
        · subst e18; exact S.x_18_M
        exact absurd h (by omega)) (fun c h => by
        have h : c < 19 := of_decide_eq_true h
        by_cases e0 : c = 0
        · subst e0; exact S.e_BadSize.kit
        by_cases e1 : c = 1
        · subst e1; exact S.e_BadTable.kit
        by_cases e2 : c = 2
        · subst e2; exact S.e_UnknownWord.kit
        by_cases e3 : c = 3
        · subst e3; exact S.e_SizeMismatch.kit
        by_cases e4 : c = 4
        · subst e4; exact S.e_BadCount.kit
        by_cases e5 : c = 5
        · subst e5; exact S.e_BadPerson.kit
        by_cases e6 : c = 6
        · subst e6; exact S.e_BadLetter.kit
        by_cases e7 : c = 7
        · subst e7; exact S.e_UnknownPerson.kit
        by_cases e8 : c = 8
        · subst e8; exact S.e_TooMany.kit
        by_cases e9 : c = 9
        · subst e9; exact S.e_BadPattern.kit
        by_cases e10 : c = 10
        · subst e10; exact S.e_SameWord.kit
        by_cases e11 : c = 11
        · subst e11; exact S.e_UnknownClue.kit
        by_cases e12 : c = 12
        · subst e12; exact S.e_BadPlace.kit
        by_cases e13 : c = 13
        · subst e13; exact S.e_TooLong.kit
        by_cases e14 : c = 14
        · subst e14; exact S.e_Melted.kit
        by_cases e15 : c = 15
        · subst e15; exact S.e_NothingToUndo.kit
        by_cases e16 : c = 16
        · subst e16; exact S.e_NothingToRedo.kit
        by_cases e17 : c = 17
        · subst e17; exact S.e_Refused.kit
        by_cases e18 : c = 18
        · subst e18; exact S.e_BadLine.kit
        exact absurd h (by omega)))⟩
theorem ok_law_k77 (S : Al P K mg cl) (hl : ∀ cs : List Int, (∀ c ∈ cs, 0 ≤ c) → ∃ env', Dr_law_k77_v2 (.un :: .fl (.lst [.lst (cs.map A.int), .int 0, .int 0, .int 0]) :: List.replicate 6 .un) = some (.rt (.fl (.fz (.bl true))), env')) : ∃ f fd, mg "law" = some (.ref f) ∧ (∀ (s : Shared) (v : Value), BindsTo s fd ⟨[v], []⟩ [("_law_script", v)]) ∧ ∀ base : Heap, FnOk P w K mg base CX0 5 f fd ["_law_script"] (Dl.spLaw K) := by
  obtain ⟨f, fd, F, i, b⟩ := S.f_law_k77
  refine ⟨f, fd, i, binds_raw F (R := fun fd => ∀ (s : Shared) (v : Value), BindsTo s fd ⟨[v], []⟩ [("_law_script", v)]) fun _ _ _ _ _ _ s v => .of_eq rfl, fun base => ?_⟩
  obtain ⟨f0, fd0, o0, i0, j0, b0⟩ := okb__law_box (P := P) (w := w) (base := base) S
  obtain ⟨f1, fd1, o1, i1, j1, b1⟩ := ok__law_letters (P := P) (w := w) (base := base) S
  obtain ⟨f2, fd2, o2, i2, j2, b2⟩ := ok__law_take (P := P) (w := w) (base := base) S
  obtain ⟨f3, fd3, o3, i3, j3, b3⟩ := ok__law_late (P := P) (w := w) (base := base) S
  obtain ⟨f4, fd4, o4, i4, j4, b4⟩ := ok__law_early (P := P) (w := w) (base := base) S
  obtain ⟨f5, fd5, o5, i5, j5, b5⟩ := ok__law_as_base (P := P) (w := w) (base := base) S
  refine Fun.okLaw (cl := cl) F sc_law_k77 rfl 6 Dr_law_k77_v2 rfl hl fun cdv A outer s H E hr => ?_
  have hr1 : Room 1 _ := hr.mono (by decide)
  have hr2 : Room 2 _ := hr.mono (by decide)
  have hr4 : Room 4 _ := hr.mono (by decide)
  exact ⟨_, pss_cons (ps_set (i := 1) sc_law_k77.nd rfl (Or.inl rfl) (pe_call o0 hr1 rfl i0 j0 b0 .nil pass0 (pa_cons (pv 0) pa_nil)))
      (pss_cons (ps_set (i := 2) sc_law_k77.nd rfl (Or.inl rfl) (pe_bm PySem.F.plainAttrs_str PySem.F.slot_str_join PySem.F.type_str_join mt_join pe_str (pa_cons (pe_call o1 hr2 rfl i1 j1 b1 .nil pass0 (pa_cons (pv 1) (pa_cons (pe_call o2 hr1 rfl i2 j2 b2 .nil pass0 (pa_cons (pv 1) (pa_cons pe_int pa_nil))) pa_nil))) pa_nil)))
      (pss_cons (ps_for PassesOwn.never rfl (pi_range1 (by rfl) S.B.range_ (pa_cons pe_int pa_nil)) (pg_name (i := 3) sc_law_k77.nd rfl (Or.inl rfl)) (pss_cons (ps_set (i := 4) sc_law_k77.nd rfl (Or.inl rfl) (pe_op op_sub (pe_call o2 hr1 rfl i2 j2 b2 .nil pass0 (pa_cons (pv 1) (pa_cons (pe_op op_sub (pe_op op_mul pe_int (pe_op op_pow pe_int pe_int)) pe_int) pa_nil))) (pe_op op_sub (pe_op op_pow pe_int pe_int) pe_int)))
      (pss_cons (ps_set (i := 5) sc_law_k77.nd rfl (Or.inl rfl) (pe_op op_sub (pe_call o2 hr1 rfl i2 j2 b2 .nil pass0 (pa_cons (pv 1) (pa_cons (pe_op op_sub (pe_op op_mul pe_int (pe_op op_pow pe_int pe_int)) pe_int) pa_nil))) (pe_op op_sub (pe_op op_pow pe_int pe_int) pe_int)))
      (pss_cons (ps_set (i := 6) sc_law_k77.nd rfl (Or.inl rfl) (pe_lst (pa_cons (pv 3) (pa_cons (pv 4) (pa_cons pe_bl pa_nil)))))
      (pss_cons (ps_if (pt_cmpR op_in_seq (pv 3) (pe_lst (pa_cons pe_int (pa_cons pe_int pa_nil))) (by rfl)) (pss_one (ps_set (i := 6) sc_law_k77.nd rfl (Or.inl rfl) (pe_lst (pa_cons (pv 3) (pa_cons (pv 4) (pa_cons (pv 5) (pa_cons pe_bl pa_nil))))))) pss_nil)
      (pss_cons (ps_if (pt_cmpR op_in_seq (pv 3) (pe_lst (pa_cons pe_int (pa_cons pe_int pa_nil))) (by rfl)) (pss_one (ps_set (i := 6) sc_law_k77.nd rfl (Or.inl rfl) (pe_lst (pa_cons (pv 3) (pa_cons (pv 2) (pa_cons pe_bl pa_nil)))))) pss_nil)
      (pss_cons (ps_if (pt_cmpR op_eq (pv 3) pe_int (nomark _)) (pss_one (ps_set (i := 6) sc_law_k77.nd rfl (Or.inl rfl) (pe_lst (pa_cons (pv 3) (pa_cons (pv 2) (pa_cons (pv 5) (pa_cons pe_bl pa_nil))))))) pss_nil)
      (pss_cons (ps_if (pt_cmpR op_in_seq (pv 3) (pe_lst (pa_cons pe_int (pa_cons pe_int pa_nil))) (by rfl)) (pss_one (ps_set (i := 6) sc_law_k77.nd rfl (Or.inl rfl) (pe_lst (pa_cons (pv 3) (pa_cons pe_bl pa_nil))))) pss_nil)
      (pss_cons (ps_set (i := 7) sc_law_k77.nd rfl (Or.inl rfl) (pe_call o3 hr4 rfl i3 j3 b3 .nil pass0 (pa_cons (pv 3) (pa_cons (pv 4) (pa_cons (pv 5) pa_nil)))))
      (pss_cons (ps_if (pt_cmpR op_lt (pv 3) pe_int (nomark _)) (pss_one (ps_set (i := 7) sc_law_k77.nd rfl (Or.inl rfl) (pe_call o4 hr4 rfl i4 j4 b4 .nil pass0 (pa_cons (pv 3) (pa_cons (pv 4) (pa_cons (pv 5) (pa_cons (pv 2) pa_nil))))))) pss_nil)
      (pss_one (ps_if (PW.pt (pw_or (pt_cmpR (op_neD hr.units) (pv 7) (pv 6) (nomark _)) (pw_or1 (pt_not (pt_val (pe_call o5 hr4 rfl i5 j5 b5 .nil pass0 (pa_cons (pv 3) (pa_cons (pv 4) (pa_cons (pv 5) (pa_cons (pv 2) pa_nil)))))))))) (pss_one (ps_ret pe_bl)) pss_nil))))))))))))
      (pss_one (ps_ret pe_bl)))),
    (ss_seq (ss_asg (i := 2) (by decide) (se_ms ms_join (se_const rfl) (sa_cons (SE.sf (se_call rfl (sr_cons se_var (sr_cons (se_call rfl (sr_cons se_var (sr_cons (se_const rfl) sr_nil))) sr_nil)))) sa_nil)))
      (ss_seq (ss_for (si_range1 (se_const rfl)) (sg_name (i := 3) (by decide)) (ss_seq (ss_asg (i := 4) (by decide) (se_op oi_sub (se_call rfl (sr_cons se_var (sr_cons (se_op oi_sub (se_op oi_mul (se_const rfl) (se_op oi_pow (se_const rfl) (se_const rfl))) (se_const rfl)) sr_nil))) (se_op oi_sub (se_op oi_pow (se_const rfl) (se_const rfl)) (se_const rfl))))
      (ss_seq (ss_asg (i := 5) (by decide) (se_op oi_sub (se_call rfl (sr_cons se_var (sr_cons (se_op oi_sub (se_op oi_mul (se_const rfl) (se_op oi_pow (se_const rfl) (se_const rfl))) (se_const rfl)) sr_nil))) (se_op oi_sub (se_op oi_pow (se_const rfl) (se_const rfl)) (se_const rfl))))
      (ss_seq (ss_asg (i := 6) (by decide) (SE.fr (se_lst (sa_cons (SE.sf se_var) (sa_cons (SE.sf se_var) (sa_cons (SE.sf (se_const rfl)) sa_nil))))))
      (ss_seq (ss_if (st_test (se_op (oi_inS (neg := false)) se_var (se_lst (sa_cons (SE.sf (se_const rfl)) (sa_cons (SE.sf (se_const rfl)) sa_nil))))) (ss_asg (i := 6) (by decide) (SE.fr (se_lst (sa_cons (SE.sf se_var) (sa_cons (SE.sf se_var) (sa_cons (SE.sf se_var) (sa_cons (SE.sf (se_const rfl)) sa_nil))))))) ss_nil)
      (ss_seq (ss_if (st_test (se_op (oi_inS (neg := false)) se_var (se_lst (sa_cons (SE.sf (se_const rfl)) (sa_cons (SE.sf (se_const rfl)) sa_nil))))) (ss_asg (i := 6) (by decide) (SE.fr (se_lst (sa_cons (SE.sf se_var) (sa_cons (SE.sf se_var) (sa_cons (SE.sf (se_const rfl)) sa_nil)))))) ss_nil)
      (ss_seq (ss_if (st_test (se_op oi_eq se_var (se_const rfl))) (ss_asg (i := 6) (by decide) (SE.fr (se_lst (sa_cons (SE.sf se_var) (sa_cons (SE.sf se_var) (sa_cons (SE.sf se_var) (sa_cons (SE.sf (se_const rfl)) sa_nil))))))) ss_nil)
      (ss_seq (ss_if (st_test (se_op (oi_inS (neg := false)) se_var (se_lst (sa_cons (SE.sf (se_const rfl)) (sa_cons (SE.sf (se_const rfl)) sa_nil))))) (ss_asg (i := 6) (by decide) (SE.fr (se_lst (sa_cons (SE.sf se_var) (sa_cons (SE.sf (se_const rfl)) sa_nil))))) ss_nil)
      (ss_seq (ss_asg (i := 7) (by decide) (SE.fr (se_call rfl (sr_cons se_var (sr_cons se_var (sr_cons se_var sr_nil))))))
      (ss_seq (ss_if (st_test (se_op oi_lt se_var (se_const rfl))) (ss_asg (i := 7) (by decide) (SE.fr (se_call rfl (sr_cons se_var (sr_cons se_var (sr_cons se_var (sr_cons se_var sr_nil))))))) ss_nil)
      (ss_if (st_or (st_test (se_op oi_neD se_var se_var)) (st_not (st_val (se_call rfl (sr_cons se_var (sr_cons se_var (sr_cons se_var (sr_cons se_var sr_nil)))))))) (ss_ret (np := 1) (se_const rfl)) ss_nil)))))))))))
      (ss_ret (np := 1) (se_const rfl))))⟩
end
end Dg
namespace Fn
open PySem PySem.Spec L2 Dl
abbrev nA (n : Nat) : A := .int (n : Int)
abbrev fz (a : A) : O := .fl (.fz a)
abbrev ow (xs : List A) : O := .fl (.lst xs)
/-! ## options, evaluated by steps that nothing unfolds -/
def _root_.Option.ob {α β : Type} (o : Option α) (f : α → Option β) : Option β := o.bind f
def _root_.Option.om {α β : Type} (o : Option α) (f : α → β) : Option β := o.map f
@[simp] theorem ob_some {α β : Type} {a : α} {f : α → Option β} : (some a).ob f = f a := (rfl)
@[simp] theorem ob_none {α β : Type} {f : α → Option β} : (none : Option α).ob f = none := (rfl)
@[simp] theorem om_some {α β : Type} {a : α} {f : α → β} : (some a).om f = some (f a) := (rfl)
@[simp] theorem om_none {α β : Type} {f : α → β} : (none : Option α).om f = none := (rfl)
/-! ## comprehensions and loops -/
theorem backE_at_out (e0 e : Dl.Env) : ∀ {vs : List Nat} {i : Nat}, i ∉ vs → (backE e0 e vs)[i]? = e[i]?
  | [], _, _ => rfl
  | v :: vs, i, h => by
    unfold backE
    split
    · rw [List.getElem?_set_ne (fun z => h (by rw [z]; exact List.mem_cons_self))]
      exact backE_at_out e0 e (fun z => h (List.mem_cons_of_mem _ z))
    · exact backE_at_out e0 e (fun z => h (List.mem_cons_of_mem _ z))
theorem wipeE_at_out (e : Dl.Env) : ∀ {vs : List Nat} {i : Nat}, i ∉ vs → (wipeE e vs)[i]? = e[i]?
  | [], _, _ => rfl
  | v :: vs, i, h => by
    unfold wipeE
    rw [List.getElem?_set_ne (fun z => h (by rw [z]; exact List.mem_cons_self))]
    exact wipeE_at_out e (fun z => h (List.mem_cons_of_mem _ z))
theorem backE_in (e0 e : Dl.Env) (l : e.length = e0.length) : ∀ {vs : List Nat} {i : Nat}, i ∈ vs → (backE e0 e vs)[i]? = e0[i]?
  | [], _, h => nomatch h
  | v :: vs, i, h => by
    by_cases e1 : v = i
    · subst e1
      unfold backE
      split
      · rename_i o ho
        rw [List.getElem?_set_self, ho]
        rw [backE_len, l]
        exact (List.getElem?_eq_some_iff.mp ho).1
      · rename_i ho
        rw [ho, List.getElem?_eq_none]
        rw [backE_len, l]
        exact List.getElem?_eq_none_iff.mp ho
    · have m : i ∈ vs := (List.mem_cons.mp h).resolve_left fun z => e1 z.symm
      unfold backE
      split
      · rw [List.getElem?_set_ne e1]; exact backE_in e0 e l m
      · exact backE_in e0 e l m
@[simp] theorem backE_wipe (e : Dl.Env) (vs : List Nat) : backE e (wipeE e vs) vs = e := by
  refine List.ext_getElem? fun i => ?_
  by_cases m : i ∈ vs
  · exact backE_in e _ (wipeE_len e vs) m
  · rw [backE_at_out _ _ m, wipeE_at_out _ m]
section
variable {ι : Type} {vs : List Nat} {h : A → Dl.Env → Option Dl.Env} {tt : Dl.Env → Option (Bool × Dl.Env)} {te : Dl.Env → Option (A × Dl.Env)} {env : Dl.Env}
/-- .. by its turns -/
theorem loopG_ix {b : GS} (f : ι → A) (xs : List ι) (I : Nat → Dl.Env → Prop) (hs : ∀ i env (hi : i < xs.length), I i env → ∃ e1 e2, h (f xs[i]) env = some e1 ∧ b e1 = some (.nx, e2) ∧ I (i + 1) e2) (h0 : I 0 env) :
    ∃ e', loopG h b (xs.map f) env = some (.nx, e') ∧ I xs.length e' := by
  suffices H : ∀ k i env, xs.length - i = k → i ≤ xs.length → I i env → ∃ e', loopG h b ((xs.drop i).map f) env = some (.nx, e') ∧ I xs.length e' by
    simpa using H xs.length 0 env (by omega) (Nat.zero_le _) h0
  intro k
  induction k with
  | zero =>
    intro i env hk hi hI
    have : i = xs.length := by omega
    subst this
    exact ⟨env, by rw [List.drop_length]; rfl, hI⟩
  | succ k ih =>
    intro i env hk hi hI
    have hi' : i < xs.length := by omega
    obtain ⟨e1, e2, h1, h2, h3⟩ := hs i env hi' hI
    obtain ⟨e', h4, h5⟩ := ih (i + 1) e2 (by omega) hi' h3
    refine ⟨e', ?_, h5⟩
    rw [List.drop_eq_getElem_cons hi', List.map_cons]
    show ((h (f xs[i]) env).bind fun e1 => (b e1).bind fun p => match p.1 with
      | .nx => loopG h b ((xs.drop (i + 1)).map f) p.2
      | .ct => loopG h b ((xs.drop (i + 1)).map f) p.2
      | .bk => some (.nx, p.2)
      | .rt o => some (.rt o, p.2)
      | .er x => some (.er x, p.2)) = _
    rw [h1, Option.bind_some, h2, Option.bind_some]
    exact h4
/-- .. over a range -/
theorem loopG_rg {b : GS} {n : Nat} (I : Nat → Dl.Env → Prop) (hs : ∀ i env, i < n → I i env → ∃ e1 e2, h (nA i) env = some e1 ∧ b e1 = some (.nx, e2) ∧ I (i + 1) e2) (h0 : I 0 env) :
    ∃ e', loopG h b ((List.range n).map nA) env = some (.nx, e') ∧ I n e' := by
  obtain ⟨e', h1, h2⟩ := loopG_ix (h := h) (b := b) (env := env) nA (List.range n) I (fun i env hi hI => by
    have := hs i env (by simpa using hi) hI
    simpa using this) h0
  exact ⟨e', h1, by simpa using h2⟩
end
/-! ## evaluation: the parts of the language -/
section
variable {env : Dl.Env}
@[simp] theorem gV_ev {i : Nat} : gV i env = match env[i]? with
  | some (.fl (.fz a)) => some (.fz a, env)
  | some .un => none
  | some _ => some (.pl i, env)
  | none => none := (rfl)
@[simp] theorem gK_ev {a : A} : gK a env = some (.fz a, env) := (rfl)
@[simp] theorem gT_ev {g : G} : gT g env = (g env).om fun p => (p.1.tmp, p.2) := (rfl)
@[simp] theorem tmp_fz {a : A} : (R.fz a).tmp = .fz a := (rfl)
@[simp] theorem tmp_pl {i : Nat} : (R.pl i).tmp = .pl i := (rfl)
@[simp] theorem tmp_pf {i : Nat} {n : Str} : (R.pf i n).tmp = .pf i n := (rfl)
@[simp] theorem tmp_owl {xs : List A} : (R.ow (.fl (.lst xs))).tmp = .fz (.lst xs) := (rfl)
@[simp] theorem tmp_owk {ks : List Key} {xs : List A} : (R.ow (.fl (.dK ks xs))).tmp = .fz (.dK ks xs) := (rfl)
@[simp] theorem tmp_owt {ks : List (List Key)} {xs : List A} : (R.ow (.fl (.dT ks xs))).tmp = .fz (.dT ks xs) := (rfl)
@[simp] theorem tmp_owz {a : A} : (R.ow (.fl (.fz a))).tmp = .fz a := (rfl)
@[simp] theorem tmp_owi {c : Nat} {ns : List Str} {fs : List Fl} : (R.ow (.ins c ns fs)).tmp = .fz (.ins c ns (fs.map Fl.frz)) := (rfl)
@[simp] theorem vw_fz {a : A} : (R.fz a).vw env = some a := (rfl)
@[simp] theorem vw_pl {i : Nat} : (R.pl i).vw env = env[i]?.ob O.vw := (rfl)
@[simp] theorem vw_pf {i : Nat} {f : Str} : (R.pf i f).vw env = env[i]?.ob (O.fvw f) := (rfl)
@[simp] theorem vw_ow {o : O} : (R.ow o).vw env = o.vw := (rfl)
@[simp] theorem ovw_un : O.un.vw = none := (rfl)
@[simp] theorem ovw_fl {f : Fl} : (O.fl f).vw = some f.frz := (rfl)
@[simp] theorem ovw_ins {c : Nat} {ns : List Str} {fs : List Fl} : (O.ins c ns fs).vw = some (.ins c ns (fs.map Fl.frz)) := (rfl)
@[simp] theorem frz_fz {a : A} : (Fl.fz a).frz = a := (rfl)
@[simp] theorem frz_lst {xs : List A} : (Fl.lst xs).frz = .lst xs := (rfl)
@[simp] theorem frz_dK {ks : List Key} {xs : List A} : (Fl.dK ks xs).frz = .dK ks xs := (rfl)
@[simp] theorem frz_dT {ks : List (List Key)} {xs : List A} : (Fl.dT ks xs).frz = .dT ks xs := (rfl)
@[simp] theorem fvw_ins {f : Str} {c : Nat} {ns : List Str} {fs : List Fl} : (O.ins c ns fs).fvw f = (fld ns fs f).om Fl.frz := (rfl)
@[simp] theorem isOw_fz {a : A} : (R.fz a).isOw = false := (rfl)
@[simp] theorem isOw_pl {i : Nat} : (R.pl i).isOw = false := (rfl)
@[simp] theorem isOw_pf {i : Nat} {f : Str} : (R.pf i f).isOw = false := (rfl)
@[simp] theorem isPf_fz {a : A} : (R.fz a).isPf = false := (rfl)
@[simp] theorem isPf_pl {i : Nat} : (R.pl i).isPf = false := (rfl)
@[simp] theorem isPf_ow {o : O} : (R.ow o).isPf = false := (rfl)
@[simp] theorem isPf_pf {i : Nat} {f : Str} : (R.pf i f).isPf = true := (rfl)
@[simp] theorem gTwo_ev {pb : Bool} {ga gb : G} : gTwo pb ga gb env = (ga env).ob fun p => (gb p.2).ob fun q => if p.1.tmp.isOw || (p.1.isPf && !pb) then none else (p.1.tmp.vw q.2).ob fun a => (q.1.vw q.2).ob fun b => some (a, b, q.2) := (rfl)
@[simp] theorem gOp_ev {pb : Bool} {f : A → A → Option A} {ga gb : G} : gOp pb f ga gb env = (gTwo pb ga gb env).ob fun p => (f p.1 p.2.1).om fun c => (.fz c, p.2.2) := (rfl)
@[simp] theorem gOpN_ev {pb : Bool} {f : A → A → Option (List A)} {ga gb : G} : gOpN pb f ga gb env = (gTwo pb ga gb env).ob fun p => (f p.1 p.2.1).om fun c => (.ow (ow c), p.2.2) := (rfl)
@[simp] theorem gOpU_ev {pb : Bool} {f : A → A → Option (List A)} {ga gb : G} : gOpU pb f ga gb env = (gTwo pb ga gb env).ob fun p => (f p.1 p.2.1).om fun c => (.fz (.tup c), p.2.2) := (rfl)
@[simp] theorem gOne_ev {ga : G} : gOne ga env = (ga env).ob fun p => (p.1.vw p.2).om fun a => (a, p.2) := (rfl)
@[simp] theorem gUn_ev {f : A → Option A} {ga : G} : gUn f ga env = (gOne ga env).ob fun p => (f p.1).om fun c => (.fz c, p.2) := (rfl)
@[simp] theorem gUnN_ev {f : A → Option (List A)} {ga : G} : gUnN f ga env = (gOne ga env).ob fun p => (f p.1).om fun c => (.ow (ow c), p.2) := (rfl)
@[simp] theorem gUnU_ev {f : A → Option (List A)} {ga : G} : gUnU f ga env = (gOne ga env).ob fun p => (f p.1).om fun c => (.fz (.tup c), p.2) := (rfl)
@[simp] theorem settle_fz {pu : Bool} {a : A} : (R.fz a).settle pu env = some (a, env) := (rfl)
@[simp] theorem settle_pl {i : Nat} : (R.pl i).settle false env = env[i]?.ob fun o => o.vw.om fun a => (a, env.set i (.fl (.fz a))) := (rfl)
@[simp] theorem settle_ow {pu : Bool} {o : O} : (R.ow o).settle pu env = o.vw.om fun a => (a, env) := (rfl)
@[simp] theorem gS_ev {pu : Bool} {g : G} : gS pu g env = (g env).ob fun p => p.1.settle pu p.2 := (rfl)
@[simp] theorem gFr_ev {pu : Bool} {g : G} : gFr pu g env = (gS pu g env).om fun p => (.fz p.1, p.2) := (rfl)
@[simp] theorem gNil_ev : gNil env = some ([], env) := (rfl)
@[simp] theorem gCons_ev {ga : Dl.Env → Option (A × Dl.Env)} {gr : Dl.Env → Option (List A × Dl.Env)} : gCons ga gr env = (ga env).ob fun p => (gr p.2).om fun q => (p.1 :: q.1, q.2) := (rfl)
@[simp] theorem gTup_ev {g : Dl.Env → Option (List A × Dl.Env)} : gTup g env = (g env).ob fun p => if p.1.length ≤ sizeLine then some (.fz (.tup p.1), p.2) else none := (rfl)
@[simp] theorem gLst_ev {g : Dl.Env → Option (List A × Dl.Env)} : gLst g env = (g env).ob fun p => if p.1.length ≤ sizeLine then some (.ow (ow p.1), p.2) else none := (rfl)
def bOf : R × Dl.Env → Option (Bool × Dl.Env)
  | (.fz (.bl b), e) => some (b, e)
  | _ => none
@[simp] theorem bOf_bl {b : Bool} {e : Dl.Env} : bOf (.fz (.bl b), e) = some (b, e) := (rfl)
@[simp] theorem gB_ev {g : G} : gB g env = (g env).ob bOf := by
  unfold gB Option.ob
  congr 1
  funext p
  obtain ⟨r, e⟩ := p
  cases r with
  | fz a => cases a <;> rfl
  | _ => rfl
@[simp] theorem gNotT_ev {g : Dl.Env → Option (Bool × Dl.Env)} : gNotT g env = (g env).om fun p => (!p.1, p.2) := (rfl)
@[simp] theorem gAndT_ev {g k : Dl.Env → Option (Bool × Dl.Env)} : gAndT g k env = (g env).ob fun p => if p.1 then k p.2 else some (false, p.2) := (rfl)
@[simp] theorem gOrT_ev {g k : Dl.Env → Option (Bool × Dl.Env)} : gOrT g k env = (g env).ob fun p => if p.1 then some (true, p.2) else k p.2 := (rfl)
@[simp] theorem gBl_ev {g : Dl.Env → Option (Bool × Dl.Env)} : gBl g env = (g env).om fun p => (.fz (.bl p.1), p.2) := (rfl)
@[simp] theorem gAndV_ev {g k : G} : gAndV g k env = (gB g env).ob fun p => if p.1 then k p.2 else some (.fz (.bl false), p.2) := (rfl)
@[simp] theorem gOrV_ev {g k : G} : gOrV g k env = (gB g env).ob fun p => if p.1 then some (.fz (.bl true), p.2) else k p.2 := (rfl)
@[simp] theorem gIf_ev {c : Dl.Env → Option (Bool × Dl.Env)} {g h : G} : gIf c g h env = (c env).ob fun p => if p.1 then g p.2 else h p.2 := (rfl)
@[simp] theorem gYes_ev : gYes env = some (true, env) := (rfl)
@[simp] theorem gTru_ev {g : G} : gTru g env = (gOne g env).ob fun p => p.1.tru.om fun b => (b, p.2) := (rfl)
/-! statements -/
@[simp] theorem gSkip_ev : gSkip env = some (.nx, env) := (rfl)
def seqK (h : GS) : Fo × Dl.Env → Option (Fo × Dl.Env)
  | (.nx, e) => h e
  | (f, e) => some (f, e)
@[simp] theorem seqK_nx {h : GS} {e : Dl.Env} : seqK h (.nx, e) = h e := (rfl)
@[simp] theorem seqK_rt {h : GS} {e : Dl.Env} {o : O} : seqK h (.rt o, e) = some (.rt o, e) := (rfl)
@[simp] theorem seqK_bk {h : GS} {e : Dl.Env} : seqK h (.bk, e) = some (.bk, e) := (rfl)
@[simp] theorem seqK_er {h : GS} {e : Dl.Env} {x : Ev} : seqK h (.er x, e) = some (.er x, e) := (rfl)
@[simp] theorem seqK_ct {h : GS} {e : Dl.Env} : seqK h (.ct, e) = some (.ct, e) := (rfl)
@[simp] theorem gSeq_ev {g h : GS} : gSeq g h env = (g env).ob (seqK h) := by
  unfold gSeq Option.ob
  congr 1
  funext ⟨f, e⟩
  cases f <;> rfl
@[simp] theorem gDo_ev {g : G} : gDo g env = (g env).om fun p => (.nx, p.2) := (rfl)
@[simp] theorem gIfS_ev {c : Dl.Env → Option (Bool × Dl.Env)} {g h : GS} : gIfS c g h env = (c env).ob fun p => if p.1 then g p.2 else h p.2 := (rfl)
@[simp] theorem gFor_ev {it : Dl.Env → Option (List A × Dl.Env)} {h : A → Dl.Env → Option Dl.Env} {b : GS} : gFor it h b env = (it env).ob fun p => loopG h b p.1 p.2 := (rfl)
@[simp] theorem loopG_nil {h : A → Dl.Env → Option Dl.Env} {b : GS} : loopG h b [] env = some (.nx, env) := (rfl)
@[simp] theorem gNever_ev : gNever env = none := (rfl)
@[simp] theorem gRetN_ev : gRetN env = some (.rt (.fl (.fz .non)), env) := (rfl)
@[simp] theorem gBrk_ev : gBrk env = some (.bk, env) := (rfl)
@[simp] theorem gCnt_ev : gCnt env = some (.ct, env) := (rfl)
@[simp] theorem hName_ev {i : Nat} {a : A} : hName i a env = some (env.set i (.fl (.fz a))) := (rfl)
@[simp] theorem wipeE_nil : wipeE env [] = env := (rfl)
@[simp] theorem wipeE_cons {v : Nat} {vs : List Nat} : wipeE env (v :: vs) = (wipeE env vs).set v .un := (rfl)
end
end Fn
namespace Fn
open PySem PySem.Spec L2 Dl
section
variable {env : Dl.Env}
@[simp] theorem backE_nil {e0 e : Dl.Env} : backE e0 e [] = e := (rfl)
@[simp] theorem backE_cons {e0 e : Dl.Env} {v : Nat} {vs : List Nat} : backE e0 e (v :: vs) = match e0[v]? with
    | some o => (backE e0 e vs).set v o
    | none => backE e0 e vs := (rfl)
/-! assignments, returns -/
def asgK (i : Nat) : R × Dl.Env → Option (Fo × Dl.Env)
  | (.ow o, e) => some (.nx, e.set i o)
  | (r, e) => (r.settle false e).map fun q => (.nx, q.2.set i (.fl (.fz q.1)))
@[simp] theorem gAsg_ev {i : Nat} {g : G} : gAsg i g env = (g env).ob (asgK i) := by
  unfold gAsg Option.ob; congr 1; funext ⟨r, e⟩; cases r <;> rfl
@[simp] theorem asgK_ow {i : Nat} {o : O} {e : Dl.Env} : asgK i (.ow o, e) = some (.nx, e.set i o) := (rfl)
@[simp] theorem asgK_fz {i : Nat} {a : A} {e : Dl.Env} : asgK i (.fz a, e) = some (.nx, e.set i (fz a)) := (rfl)
@[simp] theorem asgK_pl {i j : Nat} {e : Dl.Env} : asgK i (.pl j, e) = ((R.pl j).settle false e).om fun q => (.nx, q.2.set i (fz q.1)) := (rfl)
def retK (np : Nat) : R × Dl.Env → Option (Fo × Dl.Env)
  | (.ow o, e) => some (.rt o, e)
  | (.fz a, e) => some (.rt (.fl (.fz a)), e)
  | (.pl i, e) => if i < np then none else e[i]?.map fun o => (.rt o, e.set i .un)
  | (.pf _ _, _) => none
@[simp] theorem gRet_ev {np : Nat} {g : G} : gRet np g env = (g env).ob (retK np) := by
  unfold gRet Option.ob; congr 1; funext ⟨r, e⟩; cases r <;> rfl
@[simp] theorem retK_ow {i : Nat} {o : O} {e : Dl.Env} : retK i (.ow o, e) = some (.rt o, e) := (rfl)
@[simp] theorem retK_fz {i : Nat} {a : A} {e : Dl.Env} : retK i (.fz a, e) = some (.rt (fz a), e) := (rfl)
@[simp] theorem retK_pl {i j : Nat} {e : Dl.Env} : retK i (.pl j, e) = if j < i then none else e[j]?.om fun o => (.rt o, e.set j .un) := (rfl)
/-! targets -/
@[simp] theorem hNil_ev : hNil [] env = some env := (rfl)
@[simp] theorem hCons_ev {h : A → Dl.Env → Option Dl.Env} {hs : List A → Dl.Env → Option Dl.Env} {a : A} {as : List A} : hCons h hs (a :: as) env = (h a env).ob (hs as) := (rfl)
@[simp] theorem hTup_ev {n : Nat} {hs : List A → Dl.Env → Option Dl.Env} {l : List A} : hTup n hs (.tup l) env = if l.length = n then hs l env else none := (rfl)
@[simp] theorem gAsgT_ev {h : A → Dl.Env → Option Dl.Env} {g : Dl.Env → Option (A × Dl.Env)} : gAsgT h g env = (g env).ob fun p => (h p.1 p.2).om fun e => (.nx, e) := (rfl)
/-! calls -/
@[simp] theorem argO_fz {a : A} : argO env (.fz a) = some (fz a) := (rfl)
def notUn : Option O → Option O
  | some .un => none
  | o => o
@[simp] theorem notUn_fl {f : Fl} : notUn (some (.fl f)) = some (.fl f) := (rfl)
@[simp] theorem notUn_ins {c : Nat} {ns : List Str} {fs : List Fl} : notUn (some (.ins c ns fs)) = some (.ins c ns fs) := (rfl)
@[simp] theorem argO_pl {i : Nat} : argO env (.pl i) = notUn env[i]? := by
  show (match env[i]? with | some .un => none | o => o) = _
  cases env[i]? with
  | none => rfl
  | some o => cases o <;> rfl
@[simp] theorem argOs_nil : argOs env [] = some [] := (rfl)
@[simp] theorem argOs_cons {r : R} {rs : List R} : argOs env (r :: rs) = (argO env r).ob fun o => (argOs env rs).om (o :: ·) := (rfl)
@[simp] theorem plIdx_nil : plIdx [] = [] := (rfl)
@[simp] theorem plIdx_fz {a : A} {rs : List R} : plIdx (.fz a :: rs) = plIdx rs := (rfl)
@[simp] theorem plIdx_pl {i : Nat} {rs : List R} : plIdx (.pl i :: rs) = i :: plIdx rs := (rfl)
@[simp] theorem backO_nil {os : List O} : backO env [] os = env := by cases os <;> rfl
@[simp] theorem backO_fz {a : A} {rs : List R} {o : O} {os : List O} : backO env (.fz a :: rs) (o :: os) = backO env rs os := (rfl)
@[simp] theorem backO_pl {i : Nat} {rs : List R} {o : O} {os : List O} : backO env (.pl i :: rs) (o :: os) = backO (env.set i o) rs os := (rfl)
@[simp] theorem toR_fz {a : A} : (O.fl (.fz a)).toR = .fz a := (rfl)
@[simp] theorem toR_l {xs : List A} : (O.fl (.lst xs)).toR = .ow (.fl (.lst xs)) := (rfl)
@[simp] theorem toR_dK {ks : List Key} {xs : List A} : (O.fl (.dK ks xs)).toR = .ow (.fl (.dK ks xs)) := (rfl)
@[simp] theorem toR_dT {ks : List (List Key)} {xs : List A} : (O.fl (.dT ks xs)).toR = .ow (.fl (.dT ks xs)) := (rfl)
@[simp] theorem toR_ins {c : Nat} {ns : List Str} {fs : List Fl} : (O.ins c ns fs).toR = .ow (.ins c ns fs) := (rfl)
@[simp] theorem callG_ev {f : GF} {rs : List R} : callG f rs env = if (plIdx rs).Nodup then (argOs env rs).ob fun os => (f os).om fun p => (p.1.toR, backO env rs p.2) else none := (rfl)
@[simp] theorem gA0_ev : gA0 env = some ([], env) := (rfl)
@[simp] theorem gA_ev {ga : G} {gr : Dl.Env → Option (List R × Dl.Env)} : gA ga gr env = (ga env).ob fun p => if p.1.isPf || p.1.tmp.isOw then none else (gr p.2).om fun q => (p.1.tmp :: q.1, q.2) := (rfl)
@[simp] theorem gCall_ev {f : GF} {ds : List A} {g : Dl.Env → Option (List R × Dl.Env)} : gCall f ds g env = (g env).ob fun p => callG f (p.1 ++ ds.map .fz) p.2 := (rfl)
@[simp] theorem insOf_ins {c c' : Nat} {m : Str} {ns : List Str} {xs : List A} : insOf c m (.ins c' ns xs) = (c' == c && !ns.contains m) := (rfl)
@[simp] theorem gMeth_ev {c : Nat} {m : Str} {f : GF} {ds : List A} {go : G} {g : Dl.Env → Option (List R × Dl.Env)} : gMeth c m f ds go g env = (go env).ob fun p => if p.1.isPf || p.1.tmp.isOw then none else
  (p.1.tmp.vw p.2).ob fun a => if insOf c m a then (g p.2).ob fun q => callG f (p.1.tmp :: (q.1 ++ ds.map .fz)) q.2 else none := (rfl)
@[simp] theorem gCls_ev {c : Nat} {f : GF} {g : Dl.Env → Option (List R × Dl.Env)} : gCls c f g env = (g env).ob fun p => callG f (.fz (.kls c) :: p.1) p.2 := (rfl)
@[simp] theorem gSta_ev {f : GF} {g : Dl.Env → Option (List R × Dl.Env)} : gSta f g env = (g env).ob fun p => callG f p.1 p.2 := (rfl)
@[simp] theorem isIns_ins {c c' : Nat} {ns : List Str} {xs : List A} : (A.ins c' ns xs).isIns c = (c' == c) := (rfl)
@[simp] theorem gSup_ev {c : Nat} {f : GF} {g : Dl.Env → Option (List R × Dl.Env)} : gSup c f g env = (gT (gV 0) env).ob fun o => (o.1.vw o.2).ob fun a => if a.isIns c then (g env).ob fun p => callG f (o.1 :: p.1) p.2 else none := (rfl)
def op2K (cond : A → A → Bool) (sw : Bool) (f : GF) : List R × Dl.Env → Option (R × Dl.Env)
  | ([r1, r2], e) => (r1.vw e).bind fun a => (r2.vw e).bind fun b => if cond a b then callG f (if sw then [r2, r1] else [r1, r2]) e else none
  | _ => none
@[simp] theorem op2K_two {cond : A → A → Bool} {sw : Bool} {f : GF} {r1 r2 : R} {e : Dl.Env} : op2K cond sw f ([r1, r2], e) = (r1.vw e).ob fun a => (r2.vw e).ob fun b => if cond a b then callG f (if sw then [r2, r1] else [r1, r2]) e else none := (rfl)
@[simp] theorem gOp2_ev {cond : A → A → Bool} {sw : Bool} {f : GF} {ga gb : G} : gOp2 cond sw f ga gb env = (gA ga (gA gb gA0) env).ob (op2K cond sw f) := by
  unfold gOp2 Option.ob; congr 1; funext ⟨rs, e⟩
  match rs with
  | [] => rfl
  | [_] => rfl
  | [_, _] => rfl
  | _ :: _ :: _ :: _ => rfl
def op1K (cond : A → Bool) (f : GF) : List R × Dl.Env → Option (R × Dl.Env)
  | ([r1], e) => (r1.vw e).bind fun a => if cond a then callG f [r1] e else none
  | _ => none
@[simp] theorem op1K_one {cond : A → Bool} {f : GF} {r1 : R} {e : Dl.Env} : op1K cond f ([r1], e) = (r1.vw e).ob fun a => if cond a then callG f [r1] e else none := (rfl)
@[simp] theorem gOp1_ev {cond : A → Bool} {f : GF} {ga : G} : gOp1 cond f ga env = (gA ga gA0 env).ob (op1K cond f) := by
  unfold gOp1 Option.ob; congr 1; funext ⟨rs, e⟩
  match rs with
  | [] => rfl
  | [_] => rfl
  | _ :: _ :: _ => rfl
@[simp] theorem bothIns_ev {c : Nat} {a b : A} : bothIns c a b = (a.isIns c && b.isIns c) := (rfl)
@[simp] theorem leftIns_ev {c : Nat} {a b : A} : leftIns c a b = a.isIns c := (rfl)
@[simp] theorem rightIns_ev {c : Nat} {a b : A} : rightIns c a b = b.isIns c := (rfl)
@[simp] theorem negR_bl {neg b : Bool} : negR neg (.fz (.bl b)) = some (.fz (.bl (if neg then !b else b))) := (rfl)
@[simp] theorem gInO_ev {c : Nat} {neg : Bool} {f : GF} {ga gb : G} : gInO c neg f ga gb env = (gOp2 (rightIns c) true f ga gb env).ob fun p => (negR neg p.1).om fun r => (r, p.2) := (rfl)
@[simp] theorem gNeO_ev {c : Nat} {f : GF} {ga gb : G} : gNeO c f ga gb env = (gOp2 (bothIns c) false f ga gb env).ob fun p => (negR true p.1).om fun r => (r, p.2) := (rfl)
/-! fields -/
@[simp] theorem fldR_fz {i : Nat} {n : Str} {a : A} : fldR i n (.fz a) = .fz a := (rfl)
@[simp] theorem fldR_lst {i : Nat} {n : Str} {xs : List A} : fldR i n (.lst xs) = .pf i n := (rfl)
@[simp] theorem fldR_dK {i : Nat} {n : Str} {ks : List Key} {xs : List A} : fldR i n (.dK ks xs) = .pf i n := (rfl)
def fldK (c : Nat) (n : Str) : R × Dl.Env → Option (R × Dl.Env)
  | (.fz (.ins c' ns xs), e) => if c' = c then ((ns.zip xs).lookup n).map fun a => (.fz a, e) else none
  | (.pl i, e) => match e[i]? with
    | some (.ins c' ns fs) => if c' = c then (fld ns fs n).map fun f => (fldR i n f, e) else none
    | _ => none
  | _ => none
@[simp] theorem fldK_fz {c : Nat} {n : Str} {c' : Nat} {ns : List Str} {xs : List A} {e : Dl.Env} : fldK c n (.fz (.ins c' ns xs), e) = if c' = c then ((ns.zip xs).lookup n).om fun a => (.fz a, e) else none := (rfl)
@[simp] theorem fldK_pl {c : Nat} {n : Str} {i : Nat} {e : Dl.Env} : fldK c n (.pl i, e) = match e[i]? with
    | some (.ins c' ns fs) => if c' = c then (fld ns fs n).om fun f => (fldR i n f, e) else none
    | _ => none := (rfl)
@[simp] theorem gFld_ev {c : Nat} {n : Str} {g : G} : gFld c n g env = (g env).ob fun p => fldK c n (p.1.tmp, p.2) := by
  unfold gFld Option.ob; congr 1; funext ⟨r, e⟩
  simp only
  cases r.tmp with
  | fz a => cases a <;> rfl
  | _ => rfl
@[simp] theorem gAlt_ev {g h : G} : gAlt g h env = (g env).orElse fun _ => h env := by
  unfold gAlt
  cases g env <;> rfl
@[simp] theorem gAltT_ev {g h : Dl.Env → Option (Bool × Dl.Env)} : gAltT g h env = (g env).orElse fun _ => h env := by
  unfold gAltT
  cases g env <;> rfl
@[simp] theorem gItAlt_ev {g h : Dl.Env → Option (List A × Dl.Env)} : gItAlt g h env = (g env).orElse fun _ => h env := by
  unfold gItAlt
  cases g env <;> rfl
/-! instances made -/
def makeK (n : Nat) : R × Dl.Env → Option (R × Dl.Env)
  | (.fz .non, e) => (e[n]?).map fun o => (.ow o, e.take n)
  | _ => none
@[simp] theorem makeK_non {n : Nat} {e : Dl.Env} : makeK n (.fz .non, e) = (e[n]?).om fun o => (.ow o, e.take n) := (rfl)
@[simp] theorem makeG_ev {c : Nat} {f : GF} {rs : List R} : makeG c f rs env = (callG f (.pl env.length :: rs) (env ++ [.ins c [] []])).ob (makeK env.length) := by
  unfold makeG Option.ob; congr 1; funext ⟨r, e⟩
  cases r with
  | fz a => cases a <;> rfl
  | _ => rfl
@[simp] theorem gMakeR_ev {c : Nat} {f : GF} {ds : List A} {g : Dl.Env → Option (List R × Dl.Env)} : gMakeR c f ds g env = (g env).ob fun p => makeG c f (p.1 ++ ds.map .fz) p.2 := (rfl)
@[simp] theorem gMakeR0_ev {c n : Nat} {f : GF} {g : Dl.Env → Option (List R × Dl.Env)} : gMakeR0 c n f g env = (g env).ob fun p => if p.1.length = n then makeG c f (p.1 ++ [.fz (.dK [] [])]) p.2 else none := (rfl)
@[simp] theorem gMakeN_ev {i c : Nat} {f : GF} {g : Dl.Env → Option (List R × Dl.Env)} : gMakeN i c f g env = match env[i]? with
  | some (.fl (.fz (.kls c'))) => if c' = c then (g env).ob fun p => makeG c f p.1 p.2 else none
  | _ => none := (rfl)
def stK (f : GF) (xs : List A) : List R × Dl.Env → Option (R × Dl.Env)
  | ([r], e) => callG f [r, .fz (.tup xs)] e
  | _ => none
@[simp] theorem stK_one {f : GF} {xs : List A} {r : R} {e : Dl.Env} : stK f xs ([r], e) = callG f [r, .fz (.tup xs)] e := (rfl)
@[simp] theorem gStK_ev {f : GF} {g : Dl.Env → Option (A × Dl.Env)} {ga : Dl.Env → Option (List R × Dl.Env)} : gStK f g ga env = (g env).ob fun p => p.1.lsts.ob fun xs => if xs.length ≤ sizeLine then (ga p.2).ob (stK f xs) else none := by
  unfold gStK Option.ob; congr 1; funext p; congr 1; funext xs; congr 1; congr 1; funext ⟨rs, e⟩
  match rs with
  | [] => rfl
  | [_] => rfl
  | _ :: _ :: _ => rfl
/-! places -/
@[simp] theorem getP_pl {i : Nat} : getP env (.pl i) = env[i]?.ob O.flat := (rfl)
@[simp] theorem getP_pf {i : Nat} {n : Str} : getP env (.pf i n) = env[i]?.ob (O.fldO n) := (rfl)
@[simp] theorem flat_fl {f : Fl} : (O.fl f).flat = some f := (rfl)
@[simp] theorem fldO_ins {n : Str} {c : Nat} {ns : List Str} {fs : List Fl} : (O.ins c ns fs).fldO n = fld ns fs n := (rfl)
@[simp] theorem putP_pl {i : Nat} {x : Fl} : putP env (.pl i) x = env.set i (.fl x) := (rfl)
@[simp] theorem putP_pf {i : Nat} {n : Str} {x : Fl} : putP env (.pf i n) x = match env[i]? with
    | some o => env.set i (o.putFld n x)
    | none => env := (rfl)
@[simp] theorem putFld_ins {n : Str} {x : Fl} {c : Nat} {ns : List Str} {fs : List Fl} : (O.ins c ns fs).putFld n x = .ins c ns (setFld ns fs n x) := (rfl)
@[simp] theorem setFld_cons {n m : Str} {ns : List Str} {f x : Fl} {fs : List Fl} : setFld (n :: ns) (f :: fs) m x = if m == n then x :: fs else f :: setFld ns fs m x := (rfl)
@[simp] theorem fld_ev {ns : List Str} {fs : List Fl} {f : Str} : fld ns fs f = (ns.zip fs).lookup f := (rfl)
@[simp] theorem isL_lst {xs : List A} : (Fl.lst xs).isL = true := (rfl)
@[simp] theorem own_lst {xs : List A} : (Fl.lst xs).own = true := (rfl)
@[simp] theorem gPlc_ev {f : Fl → List A → Option (Fl × A)} {pa : Bool} {g : G} {ga : Dl.Env → Option (List A × Dl.Env)} : gPlc f pa g ga env = (g env).ob fun p => (getP p.2 p.1).ob fun f0 => if f0.isL && (!p.1.isPf || pa) then
  (ga p.2).ob fun q => (getP q.2 p.1).ob fun fl => if fl.own then (f fl q.1).om fun z => (.fz z.2, putP q.2 p.1 z.1) else none
  else none := (rfl)
@[simp] theorem pAppend_ev {xs : List A} {a : A} : pAppend (.lst xs) [a] = if xs.length < sizeLine then some (.lst (xs ++ [a]), .non) else none := (rfl)
def setK (e : Dl.Env) (r : R) (v : A) : Fl → A → Option (Fo × Dl.Env)
  | .lst xs, .int k => (ixN xs.length k).map fun j => (.nx, putP e r (.lst (xs.set j v)))
  | _, _ => none
@[simp] theorem setK_ev {e : Dl.Env} {r : R} {v : A} {xs : List A} {k : Int} : setK e r v (.lst xs) (.int k) = (ixN xs.length k).om fun j => (.nx, putP e r (.lst (xs.set j v))) := (rfl)
@[simp] theorem gSetI_ev {pi : Bool} {gv : Dl.Env → Option (A × Dl.Env)} {g gi : G} : gSetI pi gv g gi env = (gv env).ob fun p => (g p.2).ob fun q => if (!q.1.isPf || pi) then (gOne gi q.2).ob fun z => (getP z.2 q.1).ob fun fl => setK z.2 q.1 p.1 fl z.1 else none := (rfl)
@[simp] theorem putZ_nil {κ β : Type} [DecidableEq κ] {q : κ} {y : β} : putZ [] [] q y = ([q], [y]) := (rfl)
@[simp] theorem putD_dK {ks : List Key} {xs : List A} {k a : A} : putD (.dK ks xs) k a = (keyA k).ob fun q => if ks.Nodup ∧ ks.length < sizeLine then some (.dK (putZ ks xs q a).1 (putZ ks xs q a).2) else none := (rfl)
@[simp] theorem keyA_int {i : Int} : keyA (.int i) = some (.inl i) := (rfl)
@[simp] theorem keyA_str {s : Str} : keyA (.str s) = some (.inr s) := (rfl)
@[simp] theorem gDPut_ev {pk : Bool} {gv : Dl.Env → Option (A × Dl.Env)} {g gk : G} : gDPut pk gv g gk env = (gv env).ob fun p => (g p.2).ob fun q => if (!q.1.isPf || pk) then (gOne gk q.2).ob fun z => (getP z.2 q.1).ob fun fl => (putD fl z.1 p.1).om fun fl' => (.nx, putP z.2 q.1 fl') else none := (rfl)
@[simp] theorem gDNew_ev {f : Fl} : gDNew f env = some (.ow (.fl f), env) := (rfl)
/-! chains -/
def chK (f' : A → A → Option A) (gc : G) (b : A) (e : Dl.Env) : A → Option (R × Dl.Env)
  | .bl true => (gOne gc e).bind fun q => (f' b q.1).map fun c => (.fz c, q.2)
  | .bl false => some (.fz (.bl false), e)
  | _ => none
@[simp] theorem chK_bl {f' : A → A → Option A} {gc : G} {b : A} {e : Dl.Env} {k : Bool} : chK f' gc b e (.bl k) = if k then (gOne gc e).ob fun q => (f' b q.1).om fun c => (.fz c, q.2) else some (.fz (.bl false), e) := by cases k <;> rfl
@[simp] theorem gChain_ev {f f' : A → A → Option A} {ga gb gc : G} : gChain f f' ga gb gc env = (gTwo true ga gb env).ob fun p => (f p.1 p.2.1).ob fun z => chK f' gc p.2.1 p.2.2 z := (rfl)
/-! fields set -/
@[simp] theorem toFl_fz {a : A} {e : Dl.Env} : toFl (.fz a) e = some (.fz a, e) := (rfl)
@[simp] theorem toFl_ow {f : Fl} {e : Dl.Env} : toFl (.ow (.fl f)) e = some (f, e) := (rfl)
@[simp] theorem toFl_pl {i : Nat} {e : Dl.Env} : toFl (.pl i) e = ((R.pl i).settle false e).om fun p => (.fz p.1, p.2) := (rfl)
def setFK (i c : Nat) (n : Str) : Fl × Dl.Env → Option (Fo × Dl.Env) := fun q => match q.2[i]? with
  | some (.ins c' ns fs) => if c' = c ∧ ns.length = fs.length ∧ fs.length < 1000 then some (.nx, q.2.set i (.ins c (putZ ns fs n q.1).1 (putZ ns fs n q.1).2)) else none
  | _ => none
@[simp] theorem setFK_ev {i c : Nat} {n : Str} {f : Fl} {e : Dl.Env} : setFK i c n (f, e) = match e[i]? with
  | some (.ins c' ns fs) => if c' = c ∧ ns.length = fs.length ∧ fs.length < 1000 then some (.nx, e.set i (.ins c (putZ ns fs n f).1 (putZ ns fs n f).2)) else none
  | _ => none := (rfl)
@[simp] theorem gSetF_ev {i c : Nat} {n : Str} {g : G} : gSetF i c n g env = (g env).ob fun p => (toFl p.1 p.2).ob (setFK i c n) := (rfl)
@[simp] theorem putZ_cons {κ β : Type} [DecidableEq κ] {k q : κ} {ks : List κ} {x y : β} {xs : List β} : putZ (k :: ks) (x :: xs) q y = if k = q then (k :: ks, y :: xs) else ((k :: (putZ ks xs q y).1), x :: (putZ ks xs q y).2) := (rfl)
/-! walks -/
@[simp] theorem lsts_lst {xs : List A} : (A.lst xs).lsts = some xs := (rfl)
@[simp] theorem lsts_tup {xs : List A} : (A.tup xs).lsts = none := (rfl)
@[simp] theorem tups_tup {xs : List A} : (A.tup xs).tups = some xs := (rfl)
@[simp] theorem tups_lst {xs : List A} : (A.lst xs).tups = none := (rfl)
@[simp] theorem items_lst {xs : List A} : (A.lst xs).items = some xs := (rfl)
@[simp] theorem items_tup {xs : List A} : (A.tup xs).items = some xs := (rfl)
@[simp] theorem int?_int {i : Int} : (A.int i).int? = some i := (rfl)
@[simp] theorem str?_str {s : Str} : (A.str s).str? = some s := (rfl)
@[simp] theorem gItL_ev {g : Dl.Env → Option (A × Dl.Env)} : gItL g env = (g env).ob fun p => p.1.lsts.om fun xs => (xs, p.2) := (rfl)
@[simp] theorem gItT_ev {g : Dl.Env → Option (A × Dl.Env)} : gItT g env = (g env).ob fun p => p.1.tups.om fun xs => (xs, p.2) := (rfl)
@[simp] theorem rg1_nat {n : Nat} : rg1 (n : Int) = (List.range n).map nA := by simp [rg1]
/-- a choice that nothing evaluates -/
noncomputable def cIf {α : Type} (c : Prop) (x y : α) : α := @ite α c (Classical.propDecidable c) x y
@[simp] theorem cIf_t {α : Type} {x y : α} : cIf True x y = x := by unfold cIf; simp
@[simp] theorem cIf_f {α : Type} {x y : α} : cIf False x y = y := by unfold cIf; simp
theorem ite_cl {α : Type} {c : Prop} {d : Decidable c} {x y : α} : @ite α c d x y = cIf c x y := by unfold cIf; by_cases h : c <;> simp [h]
/-- a number small enough for a walk -/
def Sm (n : Nat) : Prop := n ≤ 16777216
theorem Sm.of {n : Nat} (h : n ≤ 1000000) : Sm n := by unfold Sm; omega
theorem Sm.c {n : Nat} (h : Sm n) : -(2 ^ 62) ≤ (n : Int) ∧ (n : Int) < 2 ^ 62 := by
  unfold Sm at h
  omega
theorem Sm.le {n : Nat} (h : Sm n) : n ≤ sizeLine := h
noncomputable def rgK : A × Dl.Env → Option (List A × Dl.Env) := fun p => p.1.int?.bind fun j => cIf (-(2 ^ 62) ≤ j ∧ j < 2 ^ 62) (some (rg1 j, p.2)) none
theorem bind_ite_some {β : Type} {c : Int → Prop} {x : Int} (h : c x) {f : Int → β} : ((some x).bind fun j => cIf (c j) (some (f j)) none) = some (f x) := by simp [h]
@[simp] theorem rgK_nat {n : Nat} (h : Sm n) : rgK (.int (n : Int), env) = some ((List.range n).map nA, env) := by
  have := bind_ite_some (c := fun j => -(2 ^ 62) ≤ j ∧ j < 2 ^ 62) (x := (n : Int)) (f := fun j => (rg1 j, env)) h.c
  rw [rg1_nat] at this
  exact this
@[simp] theorem gItR1_ev {g : G} : gItR1 g env = (gOne g env).ob rgK := by
  exact congrArg (Option.bind _) (funext fun p => congrArg (Option.bind _) (funext fun j => ite_cl))
noncomputable def rgK2 : A × A × Dl.Env → Option (List A × Dl.Env) := fun p => p.1.int?.bind fun i => p.2.1.int?.bind fun j => cIf (-(2 ^ 62) ≤ i ∧ i < 2 ^ 62 ∧ -(2 ^ 62) ≤ j ∧ j < 2 ^ 62) (some (rg2 i j, p.2.2)) none
theorem bind_ite_some2 {β : Type} {c : Int → Int → Prop} {x y : Int} (h : c x y) {f : Int → Int → β} : ((some x).bind fun i => (some y).bind fun j => cIf (c i j) (some (f i j)) none) = some (f x y) := by simp [h]
@[simp] theorem rgK2_nat {m n : Nat} (hm : Sm m) (hn : Sm n) : rgK2 (.int (m : Int), .int (n : Int), env) = some ((List.range' m (n - m)).map nA, env) := by
  have := bind_ite_some2 (c := fun i j => -(2 ^ 62) ≤ i ∧ i < 2 ^ 62 ∧ -(2 ^ 62) ≤ j ∧ j < 2 ^ 62) (x := (m : Int)) (y := (n : Int)) (f := fun i j => (rg2 i j, env)) ⟨hm.c.1, hm.c.2, hn.c.1, hn.c.2⟩
  have e : rg2 (m : Int) (n : Int) = (List.range' m (n - m)).map nA := by
    unfold rg2
    rw [show ((n : Int) - m).toNat = n - m by omega, List.range'_eq_map_range, List.map_map]
    rfl
  rw [e] at this
  exact this
@[simp] theorem gItR2_ev {pb : Bool} {g h : G} : gItR2 pb g h env = (gTwo pb g h env).ob rgK2 := by
  exact congrArg (Option.bind _) (funext fun p => congrArg (Option.bind _) (funext fun i => congrArg (Option.bind _) (funext fun j => ite_cl)))
@[simp] theorem gItS_ev {g : G} : gItS g env = (gOne g env).ob fun p => p.1.str?.om fun z => (strA z, p.2) := (rfl)
@[simp] theorem gItES_ev {g : G} : gItES g env = (gOne g env).ob fun p => p.1.str?.om fun z => (enumA (strA z), p.2) := (rfl)
@[simp] theorem gItE_ev {g : Dl.Env → Option (A × Dl.Env)} : gItE g env = (g env).ob fun p => p.1.lsts.om fun xs => (enumA xs, p.2) := (rfl)
@[simp] theorem gItET_ev {g : Dl.Env → Option (A × Dl.Env)} : gItET g env = (g env).ob fun p => p.1.tups.om fun xs => (enumA xs, p.2) := (rfl)
@[simp] theorem gItZ_ev {g h : Dl.Env → Option (A × Dl.Env)} : gItZ g h env = (g env).ob fun p => (h p.2).ob fun q => p.1.lsts.ob fun xs => q.1.lsts.om fun ys => (zipA xs ys, q.2) := (rfl)
@[simp] theorem gItZT_ev {g h : Dl.Env → Option (A × Dl.Env)} : gItZT g h env = (g env).ob fun p => (h p.2).ob fun q => p.1.tups.ob fun xs => q.1.tups.om fun ys => (zipA xs ys, q.2) := (rfl)
@[simp] theorem keysD_dK {ks : List Key} {xs : List A} : (A.dK ks xs).keysD = some (ks.map keyT) := (rfl)
@[simp] theorem noEr_nx {e : Dl.Env} : noEr (.nx, e) = some (.nx, e) := (rfl)
@[simp] theorem noEr_rt {o : O} {e : Dl.Env} : noEr (.rt o, e) = some (.rt o, e) := (rfl)
@[simp] theorem gForD_ev {sel : A → Option (List A)} {loc : Dl.Env → Option A} {h : A → Dl.Env → Option Dl.Env} {b : GS} : gForD sel loc h b env = (loc env).ob fun a => (sel a).ob fun xs => (loopG h b xs env).ob noEr := (rfl)
@[simp] theorem lcV_ev {i : Nat} : lcV i env = match env[i]? with
  | some (.fl (.fz a)) => some a
  | _ => none := (rfl)
/-! defs -/
@[simp] theorem fzn_fz {a : A} : (O.fl (.fz a)).fzn = true := (rfl)
@[simp] theorem finO_nil {ra : List Nat} {k : Nat} : finO ra k [] env = [] := by cases env <;> rfl
@[simp] theorem finO_cons {ra : List Nat} {k : Nat} {o e : O} {os : List O} : finO ra k (o :: os) (e :: env) = (if ra.contains k then o else e) :: finO ra (k + 1) os env := (rfl)
def fnK (ra : List Nat) (os : List O) : Fo × Dl.Env → Option (O × List O)
  | (.rt o, e) => some (o, finO ra 0 os e)
  | (.nx, e) => some (.fl (.fz .non), finO ra 0 os e)
  | _ => none
@[simp] theorem fnK_rt {ra : List Nat} {os : List O} {o : O} {e : Dl.Env} : fnK ra os (.rt o, e) = some (o, finO ra 0 os e) := (rfl)
@[simp] theorem fnK_nx {ra : List Nat} {os : List O} {e : Dl.Env} : fnK ra os (.nx, e) = some (fz .non, finO ra 0 os e) := (rfl)
theorem fnD_ev {ra : List Nat} {n m : Nat} {body : GS} {os : List O} : fnD ra n m body os = if os.length = n ∧ okRa ra os = true then (body (os ++ List.replicate m .un)).ob (fnK ra os) else none := by
  unfold fnD Option.ob
  congr 1; congr 1; funext ⟨f, e⟩
  cases f <;> rfl
@[simp] theorem okRa_nil {os : List O} : okRa [] os = true := (rfl)
end
/-! ## operations -/
@[simp] theorem fI0_ev {g : Int → Int → A} {i j : Int} : fI0 g (.int i) (.int j) = some (g i j) := (rfl)
@[simp] theorem fI_ev {C : Int → Int → Prop} {d : ∀ i j, Decidable (C i j)} {g : Int → Int → A} {i j : Int} : @fI C d g (.int i) (.int j) = cIf (C i j) (some (g i j)) none := ite_cl
@[simp] theorem fEq_int {i j : Int} : fEq (.int i) (.int j) = some (.bl (decide (i = j))) := by simp [fEq, A.sc, scal]
@[simp] theorem fNe_int {i j : Int} : fNe (.int i) (.int j) = some (.bl (!decide (i = j))) := by simp [fNe, A.sc, scal]
@[simp] theorem fEq_str {i j : Str} : fEq (.str i) (.str j) = some (.bl (decide (i = j))) := by simp [fEq, A.sc, scal]
@[simp] theorem fNe_str {i j : Str} : fNe (.str i) (.str j) = some (.bl (!decide (i = j))) := by simp [fNe, A.sc, scal]
@[simp] theorem fLen_lst {xs : List A} : fLen (.lst xs) = some (.int xs.length) := (rfl)
@[simp] theorem fLen_tup {xs : List A} : fLen (.tup xs) = some (.int xs.length) := (rfl)
@[simp] theorem fLenS_str {z : Str} : fLenS (.str z) = if z.length ≤ sizeLine then some (.int z.length) else none := (rfl)
@[simp] theorem fLenK_dK {ks : List Key} {xs : List A} : fLenK (.dK ks xs) = some (.int ks.length) := (rfl)
@[simp] theorem fInt_int {i : Int} : fInt (.int i) = some (.int i) := (rfl)
@[simp] theorem fAbs_int {i : Int} : fAbs (.int i) = some (.int (if i < 0 then -i else i)) := (rfl)
@[simp] theorem bls_map {ι : Type} {f : ι → Bool} : ∀ {xs : List ι}, bls (xs.map fun x => A.bl (f x)) = some (xs.map f)
  | [] => rfl
  | x :: xs => by show (bls (xs.map fun x => A.bl (f x))).map _ = _; rw [bls_map]; rfl
@[simp] theorem fAll_map {ι : Type} {f : ι → Bool} {xs : List ι} : fAll (.lst (xs.map fun x => A.bl (f x))) = some (.bl (xs.all f)) := by
  show (bls _).map _ = _; rw [bls_map]; simp [List.all_map]
@[simp] theorem fAny_map {ι : Type} {f : ι → Bool} {xs : List ι} : fAny (.lst (xs.map fun x => A.bl (f x))) = some (.bl (xs.any f)) := by
  show (bls _).map _ = _; rw [bls_map]; simp [List.any_map]
@[simp] theorem ixN_nat {n k : Nat} : ixN n (k : Int) = if k < n then some k else none := by
  unfold ixN
  rw [if_pos (by omega)]
  by_cases h : k < n
  · rw [if_pos h]; simp [h]
  · rw [if_neg h]; simp [h]
theorem atI_nat {α : Type} {xs : List α} {k : Nat} : atI xs (k : Int) = xs[k]? := by
  unfold atI
  rw [ixN_nat]
  by_cases h : k < xs.length
  · rw [if_pos h]; rfl
  · rw [if_neg h, List.getElem?_eq_none (by omega)]; rfl
@[simp] theorem atI_nat' {α : Type} {xs : List α} {k : Nat} : atI xs (k : Int) = xs[k]? := atI_nat
@[simp] theorem atI_0 {α : Type} {xs : List α} : atI xs 0 = xs[0]? := atI_nat (k := 0)
@[simp] theorem atI_1 {α : Type} {xs : List α} : atI xs 1 = xs[1]? := atI_nat (k := 1)
@[simp] theorem atI_2 {α : Type} {xs : List α} : atI xs 2 = xs[2]? := atI_nat (k := 2)
@[simp] theorem atI_3 {α : Type} {xs : List α} : atI xs 3 = xs[3]? := atI_nat (k := 3)
@[simp] theorem atI_4 {α : Type} {xs : List α} : atI xs 4 = xs[4]? := atI_nat (k := 4)
@[simp] theorem ixN_0 {n : Nat} : ixN n 0 = if 0 < n then some 0 else none := ixN_nat (k := 0)
@[simp] theorem ixN_1 {n : Nat} : ixN n 1 = if 1 < n then some 1 else none := ixN_nat (k := 1)
@[simp] theorem ixN_2 {n : Nat} : ixN n 2 = if 2 < n then some 2 else none := ixN_nat (k := 2)
@[simp] theorem ixN_3 {n : Nat} : ixN n 3 = if 3 < n then some 3 else none := ixN_nat (k := 3)
@[simp] theorem fIxL_ev {xs : List A} {i : Int} : fIxL (.lst xs) (.int i) = atI xs i := (rfl)
@[simp] theorem fIxT_ev {xs : List A} {i : Int} : fIxT (.tup xs) (.int i) = atI xs i := (rfl)
@[simp] theorem fIxS_ev {z : Str} {i : Int} : fIxS (.str z) (.int i) = if z.length ≤ sizeLine then (atI z.cps.toList i).om fun c => .str ⟨#[c]⟩ else none := (rfl)
@[simp] theorem fAddS_ev {i j : Str} : fAddS (.str i) (.str j) = if i.length + j.length ≤ sizeLine then some (.str (i ++ j)) else none := (rfl)
@[simp] theorem fCat_ev {xs ys : List A} : fCat (.lst xs) (.lst ys) = if xs.length + ys.length ≤ sizeLine then some (xs ++ ys) else none := (rfl)
@[simp] theorem fLtS_ev {i j : Str} : fLtS (.str i) (.str j) = some (.bl (decide (i.cps.toList < j.cps.toList))) := (rfl)
@[simp] theorem fLeS_ev {i j : Str} : fLeS (.str i) (.str j) = some (.bl (!decide (j.cps.toList < i.cps.toList))) := (rfl)
theorem rgOk_nat {n : Nat} (h : Sm n) : RgOk 0 n := by
  unfold RgOk
  unfold Sm at h
  have := Sm.c h
  exact ⟨by decide, by decide, this.1, this.2, by omega⟩
theorem rgA_nat {n : Nat} : rgA 0 (n : Int) = (List.range n).map nA := by
  unfold rgA
  simp
@[simp] theorem fRg1_nat {n : Nat} (h : Sm n) : fRg1 (.int (n : Int)) = some ((List.range n).map nA) := by
  show (if RgOk 0 n then some (rgA 0 n) else none) = _
  rw [if_pos (rgOk_nat h), rgA_nat]
theorem scs_nat : ∀ {xs : List Nat}, scs (xs.map nA) = some (xs.map fun n : Nat => V.int (n : Int))
  | [] => rfl
  | x :: xs => by show ((A.int x).sc.bind fun v => (scs (xs.map nA)).map (v :: ·)) = _; rw [scs_nat]; rfl
theorem inV_nat {w : Nat} : ∀ {xs : List Nat}, inV (.int (w : Int)) (xs.map fun n : Nat => V.int (n : Int)) = decide (w ∈ xs)
  | [] => rfl
  | x :: xs => by
    have ih := inV_nat (w := w) (xs := xs)
    unfold inV at ih ⊢
    rw [List.map_cons, List.any_cons, ih]
    by_cases h : x = w
    · subst h; simp [eqV]
    · have h' : w ≠ x := fun z => h z.symm
      have h2 : (x : Int) ≠ (w : Int) := by omega
      simp [eqV, h', h2]
@[simp] theorem fInS_nat {neg : Bool} {w : Nat} {xs : List Nat} : fInS neg (.int (w : Int)) (.lst (xs.map nA)) = some (.bl (if neg then !decide (w ∈ xs) else decide (w ∈ xs))) := by
  simp [fInS, A.sc, A.items, scs_nat, inV_nat]
@[simp] theorem fInS_natT {neg : Bool} {w : Nat} {xs : List Nat} : fInS neg (.int (w : Int)) (.tup (xs.map nA)) = some (.bl (if neg then !decide (w ∈ xs) else decide (w ∈ xs))) := by
  simp [fInS, A.sc, A.items, scs_nat, inV_nat]
/-! ## data -/
structure Dat {α : Type} (e : α → A) (P : α → Prop) (d : Nat) : Prop where
  ex : ∃ g : α → PyData, (∀ x, (e x).toD = some (g x)) ∧ (∀ x y, PyData.eqv (g x) (g y) = true ↔ x = y) ∧ (∀ x, P x → (g x).canLay0 = true) ∧ ∀ x, (g x).depth ≤ d
theorem dat_int : Dat A.int (fun _ => True) 0 := ⟨fun i => .int i, fun _ => rfl, fun i j => by simp [PyData.eqv], fun _ _ => by simp [PyData.canLay0], fun _ => by simp [PyData.depth]⟩
theorem dat_nat : Dat nA (fun _ => True) 0 := ⟨fun i => .int i, fun _ => rfl, fun i j => by simp [PyData.eqv]; omega, fun _ _ => by simp [PyData.canLay0], fun _ => by simp [PyData.depth]⟩
section
variable {α : Type} {e : α → A} {P : α → Prop} {d : Nat}
theorem toDL_map {g : α → PyData} (h : ∀ x, (e x).toD = some (g x)) : ∀ {xs : List α}, A.toDL (xs.map e) = some (xs.map g)
  | [] => by simp [A.toDL]
  | x :: xs => by rw [List.map_cons, A.toDL, h x, toDL_map h]; rfl
theorem eqvAll_map {g : α → PyData} (h : ∀ x y, PyData.eqv (g x) (g y) = true ↔ x = y) : ∀ {xs ys : List α}, PyData.eqvAll (xs.map g) (ys.map g) = true ↔ xs = ys
  | [], [] => by simp [PyData.eqvAll]
  | [], _ :: _ => by simp [PyData.eqvAll]
  | _ :: _, [] => by simp [PyData.eqvAll]
  | x :: xs, y :: ys => by simp [PyData.eqvAll, h, eqvAll_map h]
theorem layAll_map {g : α → PyData} (h : ∀ x, P x → (g x).canLay0 = true) : ∀ {xs : List α}, (∀ x ∈ xs, P x) → PyData.canLayAll0 (xs.map g) = true
  | [], _ => by simp [PyData.canLayAll0]
  | x :: xs, p => by simp [PyData.canLayAll0, h x (p x List.mem_cons_self), layAll_map h fun y hy => p y (List.mem_cons_of_mem _ hy)]
theorem depAll_map {g : α → PyData} (h : ∀ x, (g x).depth ≤ d) : ∀ {xs : List α}, PyData.depthAll (xs.map g) ≤ d
  | [] => by simp [PyData.depthAll]
  | x :: xs => by
    have := h x
    have := depAll_map h (xs := xs)
    rw [List.map_cons, PyData.depthAll]
    omega
theorem Dat.lst (h : Dat e P d) : Dat (fun xs : List α => .lst (xs.map e)) (fun xs => ∀ x ∈ xs, P x) (d + 1) := by
  obtain ⟨g, h1, h2, h3, h4⟩ := h
  refine ⟨fun xs => .list (xs.map g), fun xs => by simp [A.toD, toDL_map h1], fun x y => by simp [PyData.eqv, eqvAll_map h2], fun x p => by simp [PyData.canLay0, layAll_map h3 p], fun x => by have := depAll_map h4 (xs := x); rw [PyData.depth]; omega⟩
theorem Dat.tup (h : Dat e P d) : Dat (fun xs : List α => .tup (xs.map e)) (fun xs => ∀ x ∈ xs, P x) (d + 1) := by
  obtain ⟨g, h1, h2, h3, h4⟩ := h
  refine ⟨fun xs => .tuple (xs.map g), fun xs => by simp [A.toD, toDL_map h1], fun x y => by simp [PyData.eqv, eqvAll_map h2], fun x p => by simp [PyData.canLay0, layAll_map h3 p], fun x => by have := depAll_map h4 (xs := x); rw [PyData.depth]; omega⟩
theorem Dat.shape {g : α → PyData} (h3 : ∀ x, P x → (g x).canLay0 = true) (h4 : ∀ x, (g x).depth ≤ d) (hd : d ≤ 64) {x : α} (p : P x) : SeqAt.shaped (g x) = true := by
  have := h4 x
  unfold SeqAt.shaped
  rw [h3 x p, decide_eq_true (by omega)]
  rfl
theorem Dat.eq (h : Dat e P d) (hd : d ≤ 64) [DecidableEq α] {x y : α} (px : P x) (py : P y) : fEqD (e x) (e y) = some (.bl (decide (x = y))) := by
  obtain ⟨g, h1, h2, h3, h4⟩ := h
  have e1 : PyData.eqv (g x) (g y) = decide (x = y) := by
    by_cases c : x = y
    · rw [decide_eq_true c]; exact (h2 x y).mpr c
    · rw [decide_eq_false c]; exact Bool.eq_false_iff.mpr fun z => c ((h2 x y).mp z)
  simp [fEqD, h1, Dat.shape h3 h4 hd px, Dat.shape h3 h4 hd py, e1]
theorem Dat.ne (h : Dat e P d) (hd : d ≤ 64) [DecidableEq α] {x y : α} (px : P x) (py : P y) : fNeD (e x) (e y) = some (.bl (!decide (x = y))) := by
  obtain ⟨g, h1, h2, h3, h4⟩ := h
  have e1 : PyData.eqv (g x) (g y) = decide (x = y) := by
    by_cases c : x = y
    · rw [decide_eq_true c]; exact (h2 x y).mpr c
    · rw [decide_eq_false c]; exact Bool.eq_false_iff.mpr fun z => c ((h2 x y).mp z)
  simp [fNeD, h1, Dat.shape h3 h4 hd px, Dat.shape h3 h4 hd py, e1]
end
@[simp] theorem fEqD_int {i j : Int} : fEqD (.int i) (.int j) = some (.bl (decide (i = j))) := dat_int.eq (by decide) trivial trivial
@[simp] theorem fNeD_int {i j : Int} : fNeD (.int i) (.int j) = some (.bl (!decide (i = j))) := dat_int.ne (by decide) trivial trivial
@[simp] theorem fEqD_nats {xs ys : List Nat} : fEqD (.lst (xs.map nA)) (.lst (ys.map nA)) = some (.bl (decide (xs = ys))) := dat_nat.lst.eq (by decide) (fun _ _ => trivial) (fun _ _ => trivial)
@[simp] theorem fNeD_nats {xs ys : List Nat} : fNeD (.lst (xs.map nA)) (.lst (ys.map nA)) = some (.bl (!decide (xs = ys))) := dat_nat.lst.ne (by decide) (fun _ _ => trivial) (fun _ _ => trivial)
end Fn
namespace Fn
open PySem PySem.Spec L2 Dl Dg
/-! ## the law's draws -/
structure Box where
  cells : List Int
  at_ : Nat
  carry : Int
  hash : Int
def Box.enc (b : Box) : List A := [.lst (b.cells.map A.int), nA b.at_, .int b.carry, .int b.hash]
abbrev bx (b : Box) : O := .fl (.lst b.enc)
def Box.ok (b : Box) : Prop := 0 ≤ b.hash ∧ b.hash < 2147483647 ∧ 0 ≤ b.carry ∧ ∀ c ∈ b.cells, 0 ≤ c
theorem to_nat {x : Int} {m : Nat} (h0 : 0 ≤ x) (h1 : x < m) : ∃ r : Nat, x = r ∧ r < m := ⟨x.toNat, by omega, by omega⟩
theorem take_ok {b : Box} {m : Nat} (hb : b.ok) (h0 : 0 < m) (h1 : m < 100000000000000000000000000000000000000000) : ∃ r b', r < m ∧ b'.ok ∧ D__law_take [bx b, fz (nA m)] = some (fz (nA r), [bx b', fz (nA m)]) := by
  obtain ⟨cells, at_, carry, hash⟩ := b
  obtain ⟨q0, q1, q2, q3⟩ := hb
  simp only at q0 q1 q2 q3
  have h1' : (m : Int) < 100000000000000000000000000000000000000000 := by omega
  have h0' : (0 : Int) < m := by omega
  have e18 : CPow 10 18 := by unfold CPow; decide
  have md : ∀ x : Int, 0 ≤ x % (m : Int) ∧ x % (m : Int) < m := fun x => ⟨Int.emod_nonneg _ (by omega), Int.emod_lt_of_pos _ h0'⟩
  by_cases c : 0 < carry
  · obtain ⟨r, hr, lr⟩ := to_nat (md carry).1 (md carry).2
    refine ⟨r, ⟨cells, at_, carry / m, hash⟩, lr, ⟨q0, q1, Int.ediv_nonneg q2 (by omega), q3⟩, ?_⟩
    unfold D__law_take
    rw [fnD_ev]
    unfold Db__law_take
    simp [Box.enc, c, h0, h1', CDivB, hr]
  · have hc : carry = 0 := by omega
    subst hc
    have fin : ∀ (cell : Int) (at' : Nat), 0 ≤ cell → ∃ r b', r < m ∧ Box.ok b' ∧ (if 1000000000000000000 ≤ cell then b' = ⟨cells, at', cell / m, hash⟩ ∧ (r : Int) = cell % m else b' = ⟨cells, at', 0, (hash * 48271 + cell) % 2147483647⟩ ∧ (r : Int) = (hash * 48271 + cell) % 2147483647 * 69621 % 2147483629 / 16 % m) := by
      intro cell at' h
      by_cases d : 1000000000000000000 ≤ cell
      · obtain ⟨r, hr, lr⟩ := to_nat (md cell).1 (md cell).2
        exact ⟨r, ⟨cells, at', cell / m, hash⟩, lr, ⟨q0, q1, Int.ediv_nonneg h (Int.le_of_lt h0'), q3⟩, by rw [if_pos d]; exact ⟨rfl, hr.symm⟩⟩
      · obtain ⟨r, hr, lr⟩ := to_nat (md ((hash * 48271 + cell) % 2147483647 * 69621 % 2147483629 / 16)).1 (md _).2
        exact ⟨r, ⟨cells, at', 0, (hash * 48271 + cell) % 2147483647⟩, lr, ⟨Int.emod_nonneg (hash * 48271 + cell) (b := 2147483647) (by decide), Int.emod_lt_of_pos (hash * 48271 + cell) (b := 2147483647) (by decide), Int.le_refl 0, q3⟩, by rw [if_neg d]; exact ⟨rfl, hr.symm⟩⟩
    have m1 : CMul hash 48271 := .inr (by decide)
    have m2 : ∀ x : Int, CMul x 69621 := fun x => .inr (by decide)
    by_cases a : at_ < cells.length
    · obtain ⟨cell, hcell⟩ : ∃ cell, cells[at_] = cell := ⟨_, rfl⟩
      have hpos : 0 ≤ cell := q3 cell (by rw [← hcell]; exact List.getElem_mem a)
      obtain ⟨r, b', lr, ob, e⟩ := fin cell (at_ + 1) hpos
      refine ⟨r, b', lr, ob, ?_⟩
      unfold D__law_take
      rw [fnD_ev]
      unfold Db__law_take
      by_cases d : 1000000000000000000 ≤ cell
      · rw [if_pos d] at e
        obtain ⟨rfl, e⟩ := e
        simp [Box.enc, h0, h1', CDivB, a, hcell, e18, d, e]
      · rw [if_neg d] at e
        obtain ⟨rfl, e⟩ := e
        simp [Box.enc, h0, h1', CDivB, a, hcell, e18, d, e, m1, m2]
    · obtain ⟨r, b', lr, ob, e⟩ := fin 0 at_ (Int.le_refl 0)
      refine ⟨r, b', lr, ob, ?_⟩
      unfold D__law_take
      rw [fnD_ev]
      unfold Db__law_take
      rw [if_neg (by decide)] at e
      obtain ⟨rfl, e⟩ := e
      have d' : ¬ (1000000000000000000 : Int) ≤ 0 := by omega
      simp [Box.enc, h0, h1', CDivB, a, e18, d', m1, m2, e]
theorem take_x {b : Box} (m : Nat) (x : Int) (hx : x = (m : Int)) (hb : b.ok) (h0 : 0 < m) (h1 : m < 100000000000000000000000000000000000000000) : ∃ r b', r < m ∧ b'.ok ∧ D__law_take [bx b, fz (.int x)] = some (fz (nA r), [bx b', fz (.int x)]) := by
  subst hx
  exact take_ok hb h0 h1
end Fn
namespace Fn
open PySem PySem.Spec L2 Dl Dg
/-! ## texts by their codes -/
abbrev S (l : List Nat) : Str := ⟨l.toArray⟩
abbrev sA (l : List Nat) : A := .str (S l)
abbrev cA (c : Nat) : A := .str ⟨#[c]⟩
@[simp] theorem S_len {l : List Nat} : (S l).length = l.length := by simp [Str.length]
theorem S_app {a b : List Nat} : S a ++ S b = S (a ++ b) := by show Str.append _ _ = _; simp [Str.append]
@[simp] theorem S_app' {a b : List Nat} : (⟨a.toArray⟩ ++ ⟨b.toArray⟩ : Str) = ⟨(a ++ b).toArray⟩ := S_app
@[simp] theorem cutS_pre {l : List Nat} {k : Nat} : cutS ⟨l.toArray⟩ none (some (k : Int)) = S (l.take k) := by
  simp [cutS, HT.sIx_nat, HT.sIx_none, Str.length]
@[simp] theorem cutS_suf {l : List Nat} {k : Nat} : cutS ⟨l.toArray⟩ (some (k : Int)) none = S (l.drop k) := by
  simp [cutS, HT.sIx_nat, HT.sIx_none, Str.length]
  rw [List.take_of_length_le (by simp)]
  by_cases h : k ≤ l.length
  · rw [Nat.min_eq_left h]
  · rw [Nat.min_eq_right (by omega), List.drop_of_length_le (by omega), List.drop_of_length_le (by omega)]
@[simp] theorem cutS_suf1 {l : List Nat} {k : Nat} : cutS ⟨l.toArray⟩ (some ((k : Int) + 1)) none = S (l.drop (k + 1)) := cutS_suf (k := k + 1)
def az : List Nat := List.range' 97 26
theorem az_eq : (("abcdefghijklmnopqrstuvwxyz" : Str)) = S az := by decide +kernel
@[simp] theorem gP0_ev {env : Dl.Env} : gP0 env = some none := (rfl)
@[simp] theorem gP1_ev {g : G} {env : Dl.Env} : gP1 g env = (gOne g env).ob fun p => p.1.int?.om some := (rfl)
@[simp] theorem gSl3_ev {g : G} {gl gh : Dl.Env → Option (Option Int)} {env : Dl.Env} : gSl3 g gl gh env = (g env).ob fun p => if p.1.tmp.isOw then none else (gl p.2).ob fun l => (gh p.2).ob fun u => (p.1.tmp.vw p.2).om fun a => (a, l, u, p.2) := (rfl)
@[simp] theorem gSlL_ev {g : G} {gl gh : Dl.Env → Option (Option Int)} {env : Dl.Env} : gSlL g gl gh env = (gSl3 g gl gh env).ob fun p => p.1.lsts.om fun xs => (.ow (ow (cutA xs p.2.1 p.2.2.1)), p.2.2.2) := (rfl)
@[simp] theorem gSlS_ev {g : G} {gl gh : Dl.Env → Option (Option Int)} {env : Dl.Env} : gSlS g gl gh env = (gSl3 g gl gh env).ob fun p => (fSlS p.1 p.2.1 p.2.2.1).om fun a => (.fz a, p.2.2.2) := (rfl)
@[simp] theorem fSlS_ev {z : Str} {l u : Option Int} : fSlS (.str z) l u = if z.length ≤ sizeLine then some (.str (cutS z l u)) else none := (rfl)
theorem lbody_ok {b : Box} {k i : Nat} {fs pool : List Nat} {s5 : O} (ob : b.ok) (hp : 0 < pool.length) (hp2 : pool.length ≤ 26) (hf : fs.length ≤ 26) : ∃ (r : Nat) (b' : Box) (hr : r < pool.length), b'.ok ∧
    Dl__law_letters_1 [bx b, fz (nA k), fz (sA pool), ow (fs.map cA), fz (nA i), s5] = some (.nx, [bx b', fz (nA k), fz (sA (pool.take r ++ pool.drop (r + 1))), ow ((fs ++ [pool[r]]).map cA), fz (nA i), fz (nA r)]) := by
  obtain ⟨r, b2, hr, ob2, ht⟩ := take_ok (b := b) (m := pool.length) ob hp (by omega)
  have z1 : pool.length ≤ sizeLine := Nat.le_trans hp2 (by decide)
  have z2 : fs.length < sizeLine := Nat.lt_of_le_of_lt hf (by decide)
  have z3 : min r pool.length + (pool.length - (r + 1)) ≤ sizeLine := Nat.le_trans (by omega) z1
  refine ⟨r, b2, hr, ob2, ?_⟩
  simp [Dl__law_letters_1, ht, hr, z1, z2, z3]
theorem letters_ok {b : Box} {k : Nat} (hb : b.ok) (hk : k ≤ 26) : ∃ (ls : List Nat) (b' : Box), b'.ok ∧ ls.length = k ∧ ls.Nodup ∧ (∀ c ∈ ls, 97 ≤ c ∧ c ≤ 122) ∧
    D__law_letters [bx b, fz (nA k)] = some (ow (ls.map cA), [bx b', fz (nA k)]) := by
  have sm : Sm k := .of (by omega)
  have lp := loopG_rg (h := hName 4) (b := Dl__law_letters_1) (n := k) (env := [bx b, fz (nA k), fz (sA az), ow [], .un, .un])
    (fun i env => ∃ (b' : Box) (fs pool : List Nat) (s4 s5 : O), env = [bx b', fz (nA k), fz (sA pool), ow (fs.map cA), s4, s5] ∧ b'.ok ∧ (fs ++ pool).Nodup ∧ (∀ c ∈ fs ++ pool, 97 ≤ c ∧ c ≤ 122) ∧ fs.length = i ∧ pool.length + i = 26)
    (by
      rintro i env hi ⟨b1, fs, pool, s4, s5, rfl, ob, nd, rg, l1, l2⟩
      obtain ⟨r, b2, hr, ob2, ht⟩ := lbody_ok (b := b1) (k := k) (i := i) (fs := fs) (pool := pool) (s5 := s5) ob (by omega) (by omega) (by omega)
      have key : (fs ++ [pool[r]] ++ (pool.take r ++ pool.drop (r + 1))).Perm (fs ++ pool) := by
        rw [List.append_assoc]
        refine List.Perm.append_left _ ?_
        have e : pool = pool.take r ++ pool[r] :: pool.drop (r + 1) := by
          rw [← List.drop_eq_getElem_cons hr, List.take_append_drop]
        conv => rhs; rw [e]
        exact (List.perm_middle (a := pool[r]) (l₁ := pool.take r) (l₂ := pool.drop (r + 1))).symm
      exact ⟨_, _, rfl, ht, b2, fs ++ [pool[r]], _, _, _, rfl, ob2, key.nodup_iff.mpr nd, fun c m => rg c (key.mem_iff.mp m), by simp [l1], by simp; omega⟩)
    ⟨b, [], az, .un, .un, rfl, hb, by decide, by decide, rfl, by decide⟩
  obtain ⟨e', h, b', fs, pool, s4, s5, rfl, ob, nd, rg, l1, l2⟩ := lp
  refine ⟨fs, b', ob, l1, (List.nodup_append.mp nd).1, fun c m => rg c (List.mem_append_left _ m), ?_⟩
  simp [D__law_letters, fnD_ev, Db__law_letters, az_eq, sm, h]
end Fn
namespace Fn
open PySem PySem.Spec L2 Dl Dg
/-! ## words, people of the law -/
abbrev nL (xs : List Nat) : A := .lst (xs.map nA)
theorem sz {n : Nat} (h : n ≤ 1000000) : n ≤ sizeLine := Nat.le_trans h (by decide)
end Fn
namespace Fn
open PySem PySem.Spec L2 Dl Dg
abbrev Rel := Nat → Nat → Bool
abbrev LL (R : List (List Nat)) : A := .lst (R.map nL)
def rowN (n : Nat) (f : Nat → Bool) : List Nat := (List.range n).filter f
def rowsN (n : Nat) (p : Rel) : List (List Nat) := (List.range n).map fun a => rowN n (p a)
def rel (hears : List Nat) (says : List (List Nat)) : Rel := fun w o => decide (o ∈ says.getD (hears.getD w 0) [])
end Fn
namespace Fn
open PySem PySem.Spec L2 Dl Dg
/-! ## the folk of the law -/
structure Ent where
  c : Nat
  hears : List Nat
  says : List (List Nat)
def Ent.enc (n : Nat) (e : Ent) : A := .lst [cA e.c, nL e.hears, LL e.says, LL (rowsN n (rel e.hears e.says))]
def Flat (a : A) (d : Nat) : Prop := ∃ p, a.toD = some p ∧ p.canLay0 = true ∧ p.depth ≤ d
theorem Flat.mono {a : A} {d d' : Nat} (h : Flat a d) (l : d ≤ d') : Flat a d' := by
  obtain ⟨p, h1, h2, h3⟩ := h
  exact ⟨p, h1, h2, by omega⟩
theorem Dat.flat {α : Type} {e : α → A} {P : α → Prop} {d : Nat} (h : Dat e P d) {x : α} (p : P x) : Flat (e x) d := by
  obtain ⟨g, h1, h2, h3, h4⟩ := h
  exact ⟨g x, h1 x, h3 x p, h4 x⟩
/-! the plain kinds -/
end Fn
namespace Fn
open PySem PySem.Spec L2 Dl Dg
@[simp] theorem cutA_1 {a : A} {xs : List A} : cutA (a :: xs) (some 1) none = xs := by
  simp [cutA, HT.sIx]
end Fn
namespace Fn
open PySem PySem.Spec L2 Dl Dg
/-! ## names of fields -/
@[simp] theorem nf01 : ¬ (("size" : Str) = "_rows") := by decide +kernel
@[simp] theorem nb01 : (("size" : Str) == "_rows") = false := by decide +kernel
@[simp] theorem nf02 : ¬ (("size" : Str) = "_pairs") := by decide +kernel
@[simp] theorem nb02 : (("size" : Str) == "_pairs") = false := by decide +kernel
@[simp] theorem nf03 : ¬ (("size" : Str) = "_hears") := by decide +kernel
@[simp] theorem nb03 : (("size" : Str) == "_hears") = false := by decide +kernel
@[simp] theorem nf04 : ¬ (("size" : Str) = "_says") := by decide +kernel
@[simp] theorem nb04 : (("size" : Str) == "_says") = false := by decide +kernel
@[simp] theorem nf05 : ¬ (("size" : Str) = "_known") := by decide +kernel
@[simp] theorem nb05 : (("size" : Str) == "_known") = false := by decide +kernel
@[simp] theorem nf06 : ¬ (("size" : Str) = "_tables") := by decide +kernel
@[simp] theorem nb06 : (("size" : Str) == "_tables") = false := by decide +kernel
@[simp] theorem nf10 : ¬ (("_rows" : Str) = "size") := by decide +kernel
@[simp] theorem nb10 : (("_rows" : Str) == "size") = false := by decide +kernel
@[simp] theorem nf12 : ¬ (("_rows" : Str) = "_pairs") := by decide +kernel
@[simp] theorem nb12 : (("_rows" : Str) == "_pairs") = false := by decide +kernel
@[simp] theorem nf13 : ¬ (("_rows" : Str) = "_hears") := by decide +kernel
@[simp] theorem nb13 : (("_rows" : Str) == "_hears") = false := by decide +kernel
@[simp] theorem nf14 : ¬ (("_rows" : Str) = "_says") := by decide +kernel
@[simp] theorem nb14 : (("_rows" : Str) == "_says") = false := by decide +kernel
@[simp] theorem nf15 : ¬ (("_rows" : Str) = "_known") := by decide +kernel
@[simp] theorem nb15 : (("_rows" : Str) == "_known") = false := by decide +kernel
@[simp] theorem nf16 : ¬ (("_rows" : Str) = "_tables") := by decide +kernel
@[simp] theorem nb16 : (("_rows" : Str) == "_tables") = false := by decide +kernel
@[simp] theorem nf20 : ¬ (("_pairs" : Str) = "size") := by decide +kernel
@[simp] theorem nb20 : (("_pairs" : Str) == "size") = false := by decide +kernel
@[simp] theorem nf21 : ¬ (("_pairs" : Str) = "_rows") := by decide +kernel
@[simp] theorem nb21 : (("_pairs" : Str) == "_rows") = false := by decide +kernel
@[simp] theorem nf23 : ¬ (("_pairs" : Str) = "_hears") := by decide +kernel
@[simp] theorem nb23 : (("_pairs" : Str) == "_hears") = false := by decide +kernel
@[simp] theorem nf24 : ¬ (("_pairs" : Str) = "_says") := by decide +kernel
@[simp] theorem nb24 : (("_pairs" : Str) == "_says") = false := by decide +kernel
@[simp] theorem nf25 : ¬ (("_pairs" : Str) = "_known") := by decide +kernel
@[simp] theorem nb25 : (("_pairs" : Str) == "_known") = false := by decide +kernel
@[simp] theorem nf26 : ¬ (("_pairs" : Str) = "_tables") := by decide +kernel
@[simp] theorem nb26 : (("_pairs" : Str) == "_tables") = false := by decide +kernel
@[simp] theorem nf30 : ¬ (("_hears" : Str) = "size") := by decide +kernel
@[simp] theorem nb30 : (("_hears" : Str) == "size") = false := by decide +kernel
@[simp] theorem nf31 : ¬ (("_hears" : Str) = "_rows") := by decide +kernel
@[simp] theorem nb31 : (("_hears" : Str) == "_rows") = false := by decide +kernel
@[simp] theorem nf32 : ¬ (("_hears" : Str) = "_pairs") := by decide +kernel
@[simp] theorem nb32 : (("_hears" : Str) == "_pairs") = false := by decide +kernel
@[simp] theorem nf34 : ¬ (("_hears" : Str) = "_says") := by decide +kernel
@[simp] theorem nb34 : (("_hears" : Str) == "_says") = false := by decide +kernel
@[simp] theorem nf35 : ¬ (("_hears" : Str) = "_known") := by decide +kernel
@[simp] theorem nb35 : (("_hears" : Str) == "_known") = false := by decide +kernel
@[simp] theorem nf36 : ¬ (("_hears" : Str) = "_tables") := by decide +kernel
@[simp] theorem nb36 : (("_hears" : Str) == "_tables") = false := by decide +kernel
@[simp] theorem nf40 : ¬ (("_says" : Str) = "size") := by decide +kernel
@[simp] theorem nb40 : (("_says" : Str) == "size") = false := by decide +kernel
@[simp] theorem nf41 : ¬ (("_says" : Str) = "_rows") := by decide +kernel
@[simp] theorem nb41 : (("_says" : Str) == "_rows") = false := by decide +kernel
@[simp] theorem nf42 : ¬ (("_says" : Str) = "_pairs") := by decide +kernel
@[simp] theorem nb42 : (("_says" : Str) == "_pairs") = false := by decide +kernel
@[simp] theorem nf43 : ¬ (("_says" : Str) = "_hears") := by decide +kernel
@[simp] theorem nb43 : (("_says" : Str) == "_hears") = false := by decide +kernel
@[simp] theorem nf45 : ¬ (("_says" : Str) = "_known") := by decide +kernel
@[simp] theorem nb45 : (("_says" : Str) == "_known") = false := by decide +kernel
@[simp] theorem nf46 : ¬ (("_says" : Str) = "_tables") := by decide +kernel
@[simp] theorem nb46 : (("_says" : Str) == "_tables") = false := by decide +kernel
@[simp] theorem nf50 : ¬ (("_known" : Str) = "size") := by decide +kernel
@[simp] theorem nb50 : (("_known" : Str) == "size") = false := by decide +kernel
@[simp] theorem nf51 : ¬ (("_known" : Str) = "_rows") := by decide +kernel
@[simp] theorem nb51 : (("_known" : Str) == "_rows") = false := by decide +kernel
@[simp] theorem nf52 : ¬ (("_known" : Str) = "_pairs") := by decide +kernel
@[simp] theorem nb52 : (("_known" : Str) == "_pairs") = false := by decide +kernel
@[simp] theorem nf53 : ¬ (("_known" : Str) = "_hears") := by decide +kernel
@[simp] theorem nb53 : (("_known" : Str) == "_hears") = false := by decide +kernel
@[simp] theorem nf54 : ¬ (("_known" : Str) = "_says") := by decide +kernel
@[simp] theorem nb54 : (("_known" : Str) == "_says") = false := by decide +kernel
@[simp] theorem nf56 : ¬ (("_known" : Str) = "_tables") := by decide +kernel
@[simp] theorem nb56 : (("_known" : Str) == "_tables") = false := by decide +kernel
@[simp] theorem nf60 : ¬ (("_tables" : Str) = "size") := by decide +kernel
@[simp] theorem nb60 : (("_tables" : Str) == "size") = false := by decide +kernel
@[simp] theorem nf61 : ¬ (("_tables" : Str) = "_rows") := by decide +kernel
@[simp] theorem nb61 : (("_tables" : Str) == "_rows") = false := by decide +kernel
@[simp] theorem nf62 : ¬ (("_tables" : Str) = "_pairs") := by decide +kernel
@[simp] theorem nb62 : (("_tables" : Str) == "_pairs") = false := by decide +kernel
@[simp] theorem nf63 : ¬ (("_tables" : Str) = "_hears") := by decide +kernel
@[simp] theorem nb63 : (("_tables" : Str) == "_hears") = false := by decide +kernel
@[simp] theorem nf64 : ¬ (("_tables" : Str) = "_says") := by decide +kernel
@[simp] theorem nb64 : (("_tables" : Str) == "_says") = false := by decide +kernel
@[simp] theorem nf65 : ¬ (("_tables" : Str) = "_known") := by decide +kernel
@[simp] theorem nb65 : (("_tables" : Str) == "_known") = false := by decide +kernel
@[simp] theorem nm0_0 : ¬ (("_check_present" : Str) = "size") := by decide +kernel
@[simp] theorem nm0_1 : ¬ (("_check_present" : Str) = "_rows") := by decide +kernel
@[simp] theorem nm0_2 : ¬ (("_check_present" : Str) = "_pairs") := by decide +kernel
@[simp] theorem nm0_3 : ¬ (("_check_present" : Str) = "_hears") := by decide +kernel
@[simp] theorem nm0_4 : ¬ (("_check_present" : Str) = "_says") := by decide +kernel
@[simp] theorem nm0_5 : ¬ (("_check_present" : Str) = "_known") := by decide +kernel
@[simp] theorem nm0_6 : ¬ (("_check_present" : Str) = "_tables") := by decide +kernel
@[simp] theorem nm1_0 : ¬ (("_entry" : Str) = "size") := by decide +kernel
@[simp] theorem nm1_1 : ¬ (("_entry" : Str) = "_rows") := by decide +kernel
@[simp] theorem nm1_2 : ¬ (("_entry" : Str) = "_pairs") := by decide +kernel
@[simp] theorem nm1_3 : ¬ (("_entry" : Str) = "_hears") := by decide +kernel
@[simp] theorem nm1_4 : ¬ (("_entry" : Str) = "_says") := by decide +kernel
@[simp] theorem nm1_5 : ¬ (("_entry" : Str) = "_known") := by decide +kernel
@[simp] theorem nm1_6 : ¬ (("_entry" : Str) = "_tables") := by decide +kernel
@[simp] theorem nm2_0 : ¬ (("_is_block" : Str) = "size") := by decide +kernel
@[simp] theorem nm2_1 : ¬ (("_is_block" : Str) = "_rows") := by decide +kernel
@[simp] theorem nm2_2 : ¬ (("_is_block" : Str) = "_pairs") := by decide +kernel
@[simp] theorem nm2_3 : ¬ (("_is_block" : Str) = "_hears") := by decide +kernel
@[simp] theorem nm2_4 : ¬ (("_is_block" : Str) = "_says") := by decide +kernel
@[simp] theorem nm2_5 : ¬ (("_is_block" : Str) = "_known") := by decide +kernel
@[simp] theorem nm2_6 : ¬ (("_is_block" : Str) = "_tables") := by decide +kernel
@[simp] theorem nm3_0 : ¬ (("_narrow" : Str) = "size") := by decide +kernel
@[simp] theorem nm3_1 : ¬ (("_narrow" : Str) = "_rows") := by decide +kernel
@[simp] theorem nm3_2 : ¬ (("_narrow" : Str) = "_pairs") := by decide +kernel
@[simp] theorem nm3_3 : ¬ (("_narrow" : Str) = "_hears") := by decide +kernel
@[simp] theorem nm3_4 : ¬ (("_narrow" : Str) = "_says") := by decide +kernel
@[simp] theorem nm3_5 : ¬ (("_narrow" : Str) = "_known") := by decide +kernel
@[simp] theorem nm3_6 : ¬ (("_narrow" : Str) = "_tables") := by decide +kernel
@[simp] theorem nm4_0 : ¬ (("_obstacle" : Str) = "size") := by decide +kernel
@[simp] theorem nm4_1 : ¬ (("_obstacle" : Str) = "_rows") := by decide +kernel
@[simp] theorem nm4_2 : ¬ (("_obstacle" : Str) = "_pairs") := by decide +kernel
@[simp] theorem nm4_3 : ¬ (("_obstacle" : Str) = "_hears") := by decide +kernel
@[simp] theorem nm4_4 : ¬ (("_obstacle" : Str) = "_says") := by decide +kernel
@[simp] theorem nm4_5 : ¬ (("_obstacle" : Str) = "_known") := by decide +kernel
@[simp] theorem nm4_6 : ¬ (("_obstacle" : Str) = "_tables") := by decide +kernel
@[simp] theorem nm5_0 : ¬ (("_only_into" : Str) = "size") := by decide +kernel
@[simp] theorem nm5_1 : ¬ (("_only_into" : Str) = "_rows") := by decide +kernel
@[simp] theorem nm5_2 : ¬ (("_only_into" : Str) = "_pairs") := by decide +kernel
@[simp] theorem nm5_3 : ¬ (("_only_into" : Str) = "_hears") := by decide +kernel
@[simp] theorem nm5_4 : ¬ (("_only_into" : Str) = "_says") := by decide +kernel
@[simp] theorem nm5_5 : ¬ (("_only_into" : Str) = "_known") := by decide +kernel
@[simp] theorem nm5_6 : ¬ (("_only_into" : Str) = "_tables") := by decide +kernel
@[simp] theorem nm6_0 : ¬ (("_out_of_each" : Str) = "size") := by decide +kernel
@[simp] theorem nm6_1 : ¬ (("_out_of_each" : Str) = "_rows") := by decide +kernel
@[simp] theorem nm6_2 : ¬ (("_out_of_each" : Str) = "_pairs") := by decide +kernel
@[simp] theorem nm6_3 : ¬ (("_out_of_each" : Str) = "_hears") := by decide +kernel
@[simp] theorem nm6_4 : ¬ (("_out_of_each" : Str) = "_says") := by decide +kernel
@[simp] theorem nm6_5 : ¬ (("_out_of_each" : Str) = "_known") := by decide +kernel
@[simp] theorem nm6_6 : ¬ (("_out_of_each" : Str) = "_tables") := by decide +kernel
@[simp] theorem nm7_0 : ¬ (("_out_of_some" : Str) = "size") := by decide +kernel
@[simp] theorem nm7_1 : ¬ (("_out_of_some" : Str) = "_rows") := by decide +kernel
@[simp] theorem nm7_2 : ¬ (("_out_of_some" : Str) = "_pairs") := by decide +kernel
@[simp] theorem nm7_3 : ¬ (("_out_of_some" : Str) = "_hears") := by decide +kernel
@[simp] theorem nm7_4 : ¬ (("_out_of_some" : Str) = "_says") := by decide +kernel
@[simp] theorem nm7_5 : ¬ (("_out_of_some" : Str) = "_known") := by decide +kernel
@[simp] theorem nm7_6 : ¬ (("_out_of_some" : Str) = "_tables") := by decide +kernel
@[simp] theorem nm8_0 : ¬ (("add" : Str) = "size") := by decide +kernel
@[simp] theorem nm8_1 : ¬ (("add" : Str) = "_rows") := by decide +kernel
@[simp] theorem nm8_2 : ¬ (("add" : Str) = "_pairs") := by decide +kernel
@[simp] theorem nm8_3 : ¬ (("add" : Str) = "_hears") := by decide +kernel
@[simp] theorem nm8_4 : ¬ (("add" : Str) = "_says") := by decide +kernel
@[simp] theorem nm8_5 : ¬ (("add" : Str) = "_known") := by decide +kernel
@[simp] theorem nm8_6 : ¬ (("add" : Str) = "_tables") := by decide +kernel
@[simp] theorem nm9_0 : ¬ (("change_limit" : Str) = "size") := by decide +kernel
@[simp] theorem nm9_1 : ¬ (("change_limit" : Str) = "_rows") := by decide +kernel
@[simp] theorem nm9_2 : ¬ (("change_limit" : Str) = "_pairs") := by decide +kernel
@[simp] theorem nm9_3 : ¬ (("change_limit" : Str) = "_hears") := by decide +kernel
@[simp] theorem nm9_4 : ¬ (("change_limit" : Str) = "_says") := by decide +kernel
@[simp] theorem nm9_5 : ¬ (("change_limit" : Str) = "_known") := by decide +kernel
@[simp] theorem nm9_6 : ¬ (("change_limit" : Str) = "_tables") := by decide +kernel
@[simp] theorem nm10_0 : ¬ (("fits" : Str) = "size") := by decide +kernel
@[simp] theorem nm10_1 : ¬ (("fits" : Str) = "_rows") := by decide +kernel
@[simp] theorem nm10_2 : ¬ (("fits" : Str) = "_pairs") := by decide +kernel
@[simp] theorem nm10_3 : ¬ (("fits" : Str) = "_hears") := by decide +kernel
@[simp] theorem nm10_4 : ¬ (("fits" : Str) = "_says") := by decide +kernel
@[simp] theorem nm10_5 : ¬ (("fits" : Str) = "_known") := by decide +kernel
@[simp] theorem nm10_6 : ¬ (("fits" : Str) = "_tables") := by decide +kernel
@[simp] theorem nm11_0 : ¬ (("heard" : Str) = "size") := by decide +kernel
@[simp] theorem nm11_1 : ¬ (("heard" : Str) = "_rows") := by decide +kernel
@[simp] theorem nm11_2 : ¬ (("heard" : Str) = "_pairs") := by decide +kernel
@[simp] theorem nm11_3 : ¬ (("heard" : Str) = "_hears") := by decide +kernel
@[simp] theorem nm11_4 : ¬ (("heard" : Str) = "_says") := by decide +kernel
@[simp] theorem nm11_5 : ¬ (("heard" : Str) = "_known") := by decide +kernel
@[simp] theorem nm11_6 : ¬ (("heard" : Str) = "_tables") := by decide +kernel
@[simp] theorem nm12_0 : ¬ (("holds" : Str) = "size") := by decide +kernel
@[simp] theorem nm12_1 : ¬ (("holds" : Str) = "_rows") := by decide +kernel
@[simp] theorem nm12_2 : ¬ (("holds" : Str) = "_pairs") := by decide +kernel
@[simp] theorem nm12_3 : ¬ (("holds" : Str) = "_hears") := by decide +kernel
@[simp] theorem nm12_4 : ¬ (("holds" : Str) = "_says") := by decide +kernel
@[simp] theorem nm12_5 : ¬ (("holds" : Str) = "_known") := by decide +kernel
@[simp] theorem nm12_6 : ¬ (("holds" : Str) = "_tables") := by decide +kernel
@[simp] theorem nm13_0 : ¬ (("informed" : Str) = "size") := by decide +kernel
@[simp] theorem nm13_1 : ¬ (("informed" : Str) = "_rows") := by decide +kernel
@[simp] theorem nm13_2 : ¬ (("informed" : Str) = "_pairs") := by decide +kernel
@[simp] theorem nm13_3 : ¬ (("informed" : Str) = "_hears") := by decide +kernel
@[simp] theorem nm13_4 : ¬ (("informed" : Str) = "_says") := by decide +kernel
@[simp] theorem nm13_5 : ¬ (("informed" : Str) = "_known") := by decide +kernel
@[simp] theorem nm13_6 : ¬ (("informed" : Str) = "_tables") := by decide +kernel
@[simp] theorem nm14_0 : ¬ (("letters" : Str) = "size") := by decide +kernel
@[simp] theorem nm14_1 : ¬ (("letters" : Str) = "_rows") := by decide +kernel
@[simp] theorem nm14_2 : ¬ (("letters" : Str) = "_pairs") := by decide +kernel
@[simp] theorem nm14_3 : ¬ (("letters" : Str) = "_hears") := by decide +kernel
@[simp] theorem nm14_4 : ¬ (("letters" : Str) = "_says") := by decide +kernel
@[simp] theorem nm14_5 : ¬ (("letters" : Str) = "_known") := by decide +kernel
@[simp] theorem nm14_6 : ¬ (("letters" : Str) = "_tables") := by decide +kernel
@[simp] theorem nm15_0 : ¬ (("put" : Str) = "size") := by decide +kernel
@[simp] theorem nm15_1 : ¬ (("put" : Str) = "_rows") := by decide +kernel
@[simp] theorem nm15_2 : ¬ (("put" : Str) = "_pairs") := by decide +kernel
@[simp] theorem nm15_3 : ¬ (("put" : Str) = "_hears") := by decide +kernel
@[simp] theorem nm15_4 : ¬ (("put" : Str) = "_says") := by decide +kernel
@[simp] theorem nm15_5 : ¬ (("put" : Str) = "_known") := by decide +kernel
@[simp] theorem nm15_6 : ¬ (("put" : Str) = "_tables") := by decide +kernel
@[simp] theorem nm16_0 : ¬ (("refute" : Str) = "size") := by decide +kernel
@[simp] theorem nm16_1 : ¬ (("refute" : Str) = "_rows") := by decide +kernel
@[simp] theorem nm16_2 : ¬ (("refute" : Str) = "_pairs") := by decide +kernel
@[simp] theorem nm16_3 : ¬ (("refute" : Str) = "_hears") := by decide +kernel
@[simp] theorem nm16_4 : ¬ (("refute" : Str) = "_says") := by decide +kernel
@[simp] theorem nm16_5 : ¬ (("refute" : Str) = "_known") := by decide +kernel
@[simp] theorem nm16_6 : ¬ (("refute" : Str) = "_tables") := by decide +kernel
@[simp] theorem nm17_0 : ¬ (("rows" : Str) = "size") := by decide +kernel
@[simp] theorem nm17_1 : ¬ (("rows" : Str) = "_rows") := by decide +kernel
@[simp] theorem nm17_2 : ¬ (("rows" : Str) = "_pairs") := by decide +kernel
@[simp] theorem nm17_3 : ¬ (("rows" : Str) = "_hears") := by decide +kernel
@[simp] theorem nm17_4 : ¬ (("rows" : Str) = "_says") := by decide +kernel
@[simp] theorem nm17_5 : ¬ (("rows" : Str) = "_known") := by decide +kernel
@[simp] theorem nm17_6 : ¬ (("rows" : Str) = "_tables") := by decide +kernel
@[simp] theorem nm18_0 : ¬ (("said" : Str) = "size") := by decide +kernel
@[simp] theorem nm18_1 : ¬ (("said" : Str) = "_rows") := by decide +kernel
@[simp] theorem nm18_2 : ¬ (("said" : Str) = "_pairs") := by decide +kernel
@[simp] theorem nm18_3 : ¬ (("said" : Str) = "_hears") := by decide +kernel
@[simp] theorem nm18_4 : ¬ (("said" : Str) = "_says") := by decide +kernel
@[simp] theorem nm18_5 : ¬ (("said" : Str) = "_known") := by decide +kernel
@[simp] theorem nm18_6 : ¬ (("said" : Str) = "_tables") := by decide +kernel
@[simp] theorem nm19_0 : ¬ (("solve" : Str) = "size") := by decide +kernel
@[simp] theorem nm19_1 : ¬ (("solve" : Str) = "_rows") := by decide +kernel
@[simp] theorem nm19_2 : ¬ (("solve" : Str) = "_pairs") := by decide +kernel
@[simp] theorem nm19_3 : ¬ (("solve" : Str) = "_hears") := by decide +kernel
@[simp] theorem nm19_4 : ¬ (("solve" : Str) = "_says") := by decide +kernel
@[simp] theorem nm19_5 : ¬ (("solve" : Str) = "_known") := by decide +kernel
@[simp] theorem nm19_6 : ¬ (("solve" : Str) = "_tables") := by decide +kernel
@[simp] theorem nm20_0 : ¬ (("through" : Str) = "size") := by decide +kernel
@[simp] theorem nm20_1 : ¬ (("through" : Str) = "_rows") := by decide +kernel
@[simp] theorem nm20_2 : ¬ (("through" : Str) = "_pairs") := by decide +kernel
@[simp] theorem nm20_3 : ¬ (("through" : Str) = "_hears") := by decide +kernel
@[simp] theorem nm20_4 : ¬ (("through" : Str) = "_says") := by decide +kernel
@[simp] theorem nm20_5 : ¬ (("through" : Str) = "_known") := by decide +kernel
@[simp] theorem nm20_6 : ¬ (("through" : Str) = "_tables") := by decide +kernel
/-! ## tables -/
section
variable {ι κ : Type} {vs vs1 : List Nat} {h h1 : A → Dl.Env → Option Dl.Env} {tt tt1 : Dl.Env → Option (Bool × Dl.Env)} {te : Dl.Env → Option (A × Dl.Env)} {it1 : Dl.Env → Option (List A × Dl.Env)}
end
@[simp] theorem lk_self {α : Type} {k : Str} {b : α} {l : List (Str × α)} : List.lookup k ((k, b) :: l) = some b := by simp [List.lookup]
@[simp] theorem lk_ne {α : Type} {a k : Str} {b : α} {l : List (Str × α)} (h : (a == k) = false) : List.lookup a ((k, b) :: l) = List.lookup a l := by simp [List.lookup, h]
abbrev TT (R : List (List Nat)) : A := .tup (R.map fun r => .tup (r.map nA))
def pairsN (n : Nat) (p : Rel) : List (Nat × Nat) := (List.range n).flatMap fun a => (rowN n (p a)).map fun b => (a, b)
def prA (q : Nat × Nat) : A := .tup [nA q.1, nA q.2]
def tab (n : Nat) (p : Rel) : A := .ins 0 ["size", "_rows", "_pairs"] [nA n, TT (rowsN n p), .tup ((pairsN n p).map prA)]
end Fn
namespace Fn
open PySem PySem.Spec L2 Dl Dg
/-! ## errors, evaluated -/
section
variable {env : Dl.Env}
@[simp] theorem gOr_ev {g : GS} {b : GB} : gOr g b env = match g env with
  | some p => some p
  | none => (b env).om fun p => (.er p.1, p.2) := by
  unfold gOr
  cases g env with
  | some p => rfl
  | none => cases b env <;> rfl
@[simp] theorem callB_ev {b : BF} {rs : List R} : callB b rs env = if (plIdx rs).Nodup then (argOs env rs).ob fun os => (b os).om fun p => (p.1, backO env rs p.2) else none := (rfl)
@[simp] theorem bCall_ev {b : BF} {ds : List A} {g : Dl.Env → Option (List R × Dl.Env)} : bCall b ds g env = (g env).ob fun p => callB b (p.1 ++ ds.map .fz) p.2 := (rfl)
@[simp] theorem fzs_nil : fzs [] = some [] := (rfl)
@[simp] theorem fzs_fz {a : A} {rs : List R} : fzs (.fz a :: rs) = (fzs rs).om fun xs => a :: xs := (rfl)
@[simp] theorem gRaise_ev {c : Nat} {g : Dl.Env → Option (List R × Dl.Env)} : gRaise c g env = (g env).ob fun p => (fzs p.1).ob fun xs => cIf (xs.length = (eF c).length ∧ ∀ a ∈ xs, PrA a) (some (.er ⟨c, xs⟩, p.2)) none := by
  unfold gRaise Option.ob
  congr 1; funext p; congr 1; funext xs
  exact ite_cl
@[simp] theorem PrA_int {i : Int} : PrA (.int i) = (i.natAbs.log2 < 1920) := (rfl)
@[simp] theorem PrA_str {s : Str} : PrA (.str s) = (s.length ≤ 1921) := (rfl)
def erK (ra : List Nat) (os : List O) : Fo × Dl.Env → Option (Ev × List O)
  | (.er e, en) => some (e, finO ra 0 os en)
  | _ => none
@[simp] theorem erK_er {ra : List Nat} {os : List O} {e : Ev} {en : Dl.Env} : erK ra os (.er e, en) = some (e, finO ra 0 os en) := (rfl)
theorem fnB_ev {ra : List Nat} {n m : Nat} {body : GS} {os : List O} : fnB ra n m body os = if os.length = n ∧ okRa ra os = true then (body (os ++ List.replicate m .un)).ob (erK ra os) else none := by
  unfold fnB Option.ob
  congr 1; congr 1; funext ⟨f, e⟩
  cases f <;> rfl
def tzK (ra : List Nat) (os : List O) : Fo × Dl.Env → Option (O × List O)
  | (.rt o, en) => some (o, finO ra 0 os en)
  | _ => none
@[simp] theorem tzK_rt {ra : List Nat} {os : List O} {o : O} {e : Dl.Env} : tzK ra os (.rt o, e) = some (o, finO ra 0 os e) := (rfl)
def tnK (ra : List Nat) (gt : GS) (tab : Nat → Option (List A → List A)) (os : List O) : Fo × Dl.Env → Option (O × List O)
  | (.nx, en) => (gt en).ob (tzK ra os)
  | (.rt o, en) => some (o, finO ra 0 os en)
  | (.er e, en) => (tab e.c).om fun f => (.fl (.lst (f e.xs)), finO ra 0 os en)
  | _ => none
@[simp] theorem tnK_nx {ra : List Nat} {gt : GS} {tab : Nat → Option (List A → List A)} {os : List O} {e : Dl.Env} : tnK ra gt tab os (.nx, e) = (gt e).ob (tzK ra os) := (rfl)
@[simp] theorem tnK_rt {ra : List Nat} {gt : GS} {tab : Nat → Option (List A → List A)} {os : List O} {o : O} {e : Dl.Env} : tnK ra gt tab os (.rt o, e) = some (o, finO ra 0 os e) := (rfl)
@[simp] theorem tnK_er {ra : List Nat} {gt : GS} {tab : Nat → Option (List A → List A)} {os : List O} {x : Ev} {e : Dl.Env} : tnK ra gt tab os (.er x, e) = (tab x.c).om fun f => (.fl (.lst (f x.xs)), finO ra 0 os e) := (rfl)
theorem fnT_ev {ra : List Nat} {n m : Nat} {g gt : GS} {tab : Nat → Option (List A → List A)} {os : List O} : fnT ra n m g gt tab os = if os.length = n ∧ okRa ra os = true then (g (os ++ List.replicate m .un)).ob (tnK ra gt tab os) else none := by
  unfold fnT Option.ob
  congr 1; congr 1; funext ⟨f, e⟩
  cases f with
  | nx =>
    show (gt e).bind _ = (gt e).bind _
    congr 1; funext ⟨f, e⟩
    cases f <;> rfl
  | _ => rfl
end
section
variable {ι : Type} {h : A → Dl.Env → Option Dl.Env} {b : GS}
end
end Fn
namespace Fq
open PySem PySem.Spec L2 Dl Dg Fn
def Rfl (a : A) (d : Nat) : Prop := ∃ p, a.toD = some p ∧ p.canLay0 = true ∧ p.depth ≤ d ∧ PyData.eqv p p = true
theorem Rfl.mono {a : A} {d d' : Nat} (h : Rfl a d) (l : d ≤ d') : Rfl a d' := by
  obtain ⟨p, h1, h2, h3, h4⟩ := h
  exact ⟨p, h1, h2, by omega, h4⟩
theorem rfl_L {d : Nat} : ∀ {xs : List A}, (∀ x ∈ xs, Rfl x d) → ∃ ps, A.toDL xs = some ps ∧ PyData.canLayAll0 ps = true ∧ PyData.depthAll ps ≤ d ∧ PyData.eqvAll ps ps = true
  | [], _ => ⟨[], by simp [A.toDL], by simp [PyData.canLayAll0], by simp [PyData.depthAll], by simp [PyData.eqvAll]⟩
  | x :: xs, h => by
    obtain ⟨p, h1, h2, h3, h4⟩ := h x List.mem_cons_self
    obtain ⟨ps, g1, g2, g3, g4⟩ := rfl_L (xs := xs) fun y m => h y (List.mem_cons_of_mem _ m)
    exact ⟨p :: ps, by simp [A.toDL, h1, g1], by simp [PyData.canLayAll0, h2, g2], by simp only [PyData.depthAll]; omega, by simp [PyData.eqvAll, h4, g4]⟩
theorem rfl_lst {xs : List A} {d : Nat} (h : ∀ x ∈ xs, Rfl x d) : Rfl (.lst xs) (d + 1) := by
  obtain ⟨ps, g1, g2, g3, g4⟩ := rfl_L h
  exact ⟨.list ps, by simp [A.toD, g1], by simp [PyData.canLay0, g2], by simp only [PyData.depth]; omega, by simp [PyData.eqv, g4]⟩
theorem rfl_int {i : Int} : Rfl (.int i) 0 := ⟨.int i, rfl, by simp [PyData.canLay0], by simp [PyData.depth], by simp [PyData.eqv]⟩
theorem rfl_bl {b : Bool} : Rfl (.bl b) 0 := ⟨.bool b, rfl, by simp [PyData.canLay0], by simp [PyData.depth], by simp [PyData.eqv]⟩
theorem rfl_str {s : Str} (h : PyData.strOk s = true) : Rfl (.str s) 0 := ⟨.str s, rfl, by simp [PyData.canLay0, h], by simp [PyData.depth], by simp [PyData.eqv]⟩
theorem rfl_sA {l : List Nat} (h : ∀ c ∈ l, c ≤ 122) : Rfl (sA l) 0 := rfl_str (by
  simp [PyData.strOk]
  intro c m
  have := h c m
  omega)
theorem Rfl.shape {a : A} {d : Nat} (h : Rfl a d) (hd : d ≤ 60) : ∃ p, a.toD = some p ∧ SeqAt.shaped p = true ∧ PyData.eqv p p = true := by
  obtain ⟨p, h1, h2, h3, h4⟩ := h
  refine ⟨p, h1, ?_, h4⟩
  unfold SeqAt.shaped
  rw [h2, decide_eq_true (by omega)]; rfl
theorem neD_rfl {a : A} {d : Nat} (h : Rfl a d) (hd : d ≤ 60) : fNeD a a = some (.bl false) := by
  obtain ⟨p, h1, h2, h3⟩ := h.shape hd
  simp [fNeD, h1, h2, h3]
theorem join_Str : ∀ {l : List Nat}, Str.join (S []) (l.map fun c => S [c]) = S l
  | [] => rfl
  | [c] => rfl
  | c :: d :: l => by
    have ih := join_Str (l := d :: l)
    show S [c] ++ S [] ++ Str.join (S []) ((d :: l).map fun c => S [c]) = _
    rw [ih]
    simp
theorem strs_c : ∀ {l : List Nat}, strs? (l.map cA) = some (l.map fun c => S [c])
  | [] => rfl
  | c :: l => by
    rw [List.map_cons, List.map_cons]
    show (strs? (l.map cA)).map _ = _
    rw [strs_c]; rfl
theorem sum_ones : ∀ {l : List Nat}, ((l.map fun c => S [c]).map (·.length)).sum = l.length
  | [] => rfl
  | c :: l => by
    rw [List.map_cons, List.map_cons, List.sum_cons, sum_ones, List.length_cons]
    show 1 + _ = _
    omega
theorem join_c {l : List Nat} (h : l.length ≤ 1000000) : mJoin (S []) [.lst (l.map cA)] = some (sA l) := by
  show (strs? (l.map cA)).bind _ = _
  rw [strs_c, Option.bind_some, if_pos]
  · rw [TL.join_eq, join_Str]
  · rw [sum_ones]
    show l.length + _ * 0 ≤ _
    omega
theorem pow_10_9 : CPow 10 9 := by unfold CPow; decide
theorem start_box {cs : List Int} (pos : ∀ c ∈ cs, 0 ≤ c) : ∃ b : Box, b.ok ∧ O.fl (.lst [.lst (cs.map A.int), .int 0, .int 0, .int 0]) = bx b := ⟨⟨cs, 0, 0, 0⟩, ⟨Int.le_refl 0, (by decide : (0 : Int) < 2147483647), Int.le_refl 0, pos⟩, rfl⟩
section
variable {env : Dl.Env}
theorem gMs_ev {f : Str → List A → Option A} {g : G} {ga : Dl.Env → Option (List A × Dl.Env)} : gMs f g ga env = (gOne g env).ob fun p => p.1.str?.ob fun z => (ga p.2).ob fun q => (f z q.1).om fun c => (.fz c, q.2) := (rfl)
end
end Fq
namespace Fn
open PySem PySem.Spec L2 Dl Dg Fq
def tbK (ra : List Nat) (gt : GS) (tab : Nat → Bool) (os : List O) : Fo × Dl.Env → Option (O × List O)
  | (.nx, en) => (gt en).ob (tzK ra os)
  | (.rt o, en) => some (o, finO ra 0 os en)
  | (.er e, en) => if tab e.c = true then some (.fl (.fz (.bl true)), finO ra 0 os en) else none
  | _ => none
@[simp] theorem tbK_er {ra : List Nat} {gt : GS} {tab : Nat → Bool} {os : List O} {x : Ev} {e : Dl.Env} : tbK ra gt tab os (.er x, e) = if tab x.c = true then some (.fl (.fz (.bl true)), finO ra 0 os e) else none := (rfl)
theorem fnTB_ev {ra : List Nat} {n m : Nat} {g gt : GS} {tab : Nat → Bool} {os : List O} : fnTB ra n m g gt tab os = if os.length = n ∧ okRa ra os = true then (g (os ++ List.replicate m .un)).ob (tbK ra gt tab os) else none := by
  unfold fnTB Option.ob
  congr 1; congr 1; funext ⟨f, e⟩
  cases f with
  | nx =>
    show (gt e).bind _ = (gt e).bind _
    congr 1; funext ⟨f, e⟩
    cases f <;> rfl
  | _ => rfl
/-- what is told of the error of the number w -/
def dueE (w : Nat) (x y : Int) (t : List Nat) : List A :=
  if w = 3 ∨ w = 14 then [nA w, .int x, .int y, .bl true] else if w = 5 ∨ w = 6 then [nA w, sA t, .bl true] else if w = 7 then [nA w, sA t, .int y, .bl true] else if w = 15 ∨ w = 16 then [nA w, .bl true] else [nA w, .int x, .bl true]
section
variable {x y : Int} {t : List Nat} {w : Nat}
theorem pr_x {x : Int} (h : -1000000000 < x ∧ x < 1000000000) : x.natAbs.log2 < 1920 := by
  have h1 : x.natAbs < 2 ^ 1920 := Nat.lt_of_lt_of_le (by omega : x.natAbs < 2 ^ 30) (Nat.pow_le_pow_right (by decide) (by decide))
  by_cases z : x.natAbs = 0
  · rw [z]; decide
  · exact (Nat.log2_lt z).mpr h1
theorem first_no (hw : w < 10) : D__law_first [fz (nA w), fz (.int x), fz (.int y), fz (sA t)] = none := by
  have c : w = 0 ∨ w = 1 ∨ w = 2 ∨ w = 3 ∨ w = 4 ∨ w = 5 ∨ w = 6 ∨ w = 7 ∨ w = 8 ∨ w = 9 := by omega
  rcases c with rfl | rfl | rfl | rfl | rfl | rfl | rfl | rfl | rfl | rfl <;> simp [D__law_first, fnD_ev, Db__law_first]
theorem second_no (hw : w < 19) : D__law_second [fz (nA w), fz (.int x), fz (.int y)] = none := by
  have c : w < 10 ∨ w = 10 ∨ w = 11 ∨ w = 12 ∨ w = 13 ∨ w = 14 ∨ w = 15 ∨ w = 16 ∨ w = 17 ∨ w = 18 := by omega
  rcases c with c | rfl | rfl | rfl | rfl | rfl | rfl | rfl | rfl | rfl
  · have e : ∀ k : Int, 10 ≤ k → ¬ (w : Int) = k := fun k h => by omega
    simp [D__law_second, fnD_ev, Db__law_second, e]
  all_goals simp [D__law_second, fnD_ev, Db__law_second]
def exE (w : Nat) (x y : Int) (t : List Nat) : List A :=
  if w = 3 ∨ w = 14 then [.int x, .int y] else if w = 5 ∨ w = 6 then [sA t] else if w = 7 then [sA t, .int y] else if w = 15 ∨ w = 16 then [] else [.int x]
theorem x_first (hw : w < 10) (hx : -1000000000 < x ∧ x < 1000000000) (hy : -1000000000 < y ∧ y < 1000000000) (ht : t.length ≤ 26) : X__law_first [fz (nA w), fz (.int x), fz (.int y), fz (sA t)] = some (⟨w, exE w x y t⟩, [fz (nA w), fz (.int x), fz (.int y), fz (sA t)]) := by
  have px := pr_x hx
  have py := pr_x hy
  have pt : t.length ≤ 1921 := by omega
  have c : w = 0 ∨ w = 1 ∨ w = 2 ∨ w = 3 ∨ w = 4 ∨ w = 5 ∨ w = 6 ∨ w = 7 ∨ w = 8 ∨ w = 9 := by omega
  rcases c with rfl | rfl | rfl | rfl | rfl | rfl | rfl | rfl | rfl | rfl <;> simp [X__law_first, fnB_ev, Xb__law_first, fzs, eF, px, py, pt, exE]
theorem x_second (hw : w < 19) (hx : -1000000000 < x ∧ x < 1000000000) (hy : -1000000000 < y ∧ y < 1000000000) : X__law_second_v2 [fz (nA w), fz (.int x), fz (.int y)] = some (if w < 10 then ⟨18, [.int x]⟩ else ⟨w, exE w x y t⟩, [fz (nA w), fz (.int x), fz (.int y)]) := by
  have px := pr_x hx
  have py := pr_x hy
  have c : w < 10 ∨ w = 10 ∨ w = 11 ∨ w = 12 ∨ w = 13 ∨ w = 14 ∨ w = 15 ∨ w = 16 ∨ w = 17 ∨ w = 18 := by omega
  rcases c with c | rfl | rfl | rfl | rfl | rfl | rfl | rfl | rfl | rfl
  · have e : ∀ k : Int, 10 ≤ k → ¬ (w : Int) = k := fun k h => by omega
    rw [if_pos c]
    simp [X__law_second_v2, fnB_ev, Xb__law_second_v2, fzs, eF, px, py, e]
  all_goals simp [X__law_second_v2, fnB_ev, Xb__law_second_v2, fzs, eF, px, py, exE]
theorem early_ok (hw : w < 10) (hx : -1000000000 < x ∧ x < 1000000000) (hy : -1000000000 < y ∧ y < 1000000000) (ht : t.length ≤ 26) : D__law_early [fz (nA w), fz (.int x), fz (.int y), fz (sA t)] = some (ow (dueE w x y t), [fz (nA w), fz (.int x), fz (.int y), fz (sA t)]) := by
  have no := first_no (x := x) (y := y) (t := t) hw
  have er := x_first hw hx hy ht
  unfold D__law_early
  rw [fnT_ev]
  unfold Dq__law_early Tb__law_early
  have c : w = 0 ∨ w = 1 ∨ w = 2 ∨ w = 3 ∨ w = 4 ∨ w = 5 ∨ w = 6 ∨ w = 7 ∨ w = 8 ∨ w = 9 := by omega
  rcases c with rfl | rfl | rfl | rfl | rfl | rfl | rfl | rfl | rfl | rfl <;> simp [no, er, exE, dueE]
theorem late_ok (hw : w < 19) (hx : -1000000000 < x ∧ x < 1000000000) (hy : -1000000000 < y ∧ y < 1000000000) : D__law_late_v2 [fz (nA w), fz (.int x), fz (.int y)] = some (ow (if w < 10 then [.int 18, .int x, .bl true] else dueE w x y t), [fz (nA w), fz (.int x), fz (.int y)]) := by
  have no := second_no (x := x) (y := y) hw
  have er := x_second (t := t) hw hx hy
  unfold D__law_late_v2
  rw [fnT_ev]
  unfold Dq__law_late_v2 Tb__law_late_v2
  have c : w < 10 ∨ w = 10 ∨ w = 11 ∨ w = 12 ∨ w = 13 ∨ w = 14 ∨ w = 15 ∨ w = 16 ∨ w = 17 ∨ w = 18 := by omega
  rcases c with c | rfl | rfl | rfl | rfl | rfl | rfl | rfl | rfl | rfl
  · rw [if_pos c] at er
    rw [if_pos c]
    simp [no, er]
  all_goals simp [no, er, exE, dueE]
theorem base_ok (hw : w < 19) (hx : -1000000000 < x ∧ x < 1000000000) (hy : -1000000000 < y ∧ y < 1000000000) (ht : t.length ≤ 26) : D__law_as_base_v2 [fz (nA w), fz (.int x), fz (.int y), fz (sA t)] = some (fz (.bl true), [fz (nA w), fz (.int x), fz (.int y), fz (sA t)]) := by
  have no2 := second_no (x := x) (y := y) hw
  have er2 := x_second (t := t) hw hx hy
  unfold D__law_as_base_v2
  rw [fnTB_ev]
  unfold Dq__law_as_base_v2 Tb__law_as_base_v2
  by_cases c : w < 10
  · have no := first_no (x := x) (y := y) (t := t) c
    have er := x_first c hx hy ht
    have c' : (w : Int) < 10 := by omega
    simp [no, er, c', hw]
  · rw [if_neg c] at er2
    have c' : ¬ (w : Int) < 10 := by omega
    simp [no2, er2, c', hw]
theorem due_rfl (ht : ∀ c ∈ t, c ≤ 122) : Rfl (.lst (dueE w x y t)) 1 := rfl_lst fun a m => by
  have st := rfl_sA ht
  unfold dueE at m
  by_cases c1 : w = 3 ∨ w = 14
  · rw [if_pos c1] at m
    simp only [List.mem_cons, List.not_mem_nil, or_false] at m
    rcases m with rfl | rfl | rfl | rfl
    · exact rfl_int
    · exact rfl_int
    · exact rfl_int
    · exact rfl_bl
  rw [if_neg c1] at m
  by_cases c2 : w = 5 ∨ w = 6
  · rw [if_pos c2] at m
    simp only [List.mem_cons, List.not_mem_nil, or_false] at m
    rcases m with rfl | rfl | rfl
    · exact rfl_int
    · exact st
    · exact rfl_bl
  rw [if_neg c2] at m
  by_cases c3 : w = 7
  · rw [if_pos c3] at m
    simp only [List.mem_cons, List.not_mem_nil, or_false] at m
    rcases m with rfl | rfl | rfl | rfl
    · exact rfl_int
    · exact st
    · exact rfl_int
    · exact rfl_bl
  rw [if_neg c3] at m
  by_cases c4 : w = 15 ∨ w = 16
  · rw [if_pos c4] at m
    simp only [List.mem_cons, List.not_mem_nil, or_false] at m
    rcases m with rfl | rfl
    · exact rfl_int
    · exact rfl_bl
  rw [if_neg c4] at m
  simp only [List.mem_cons, List.not_mem_nil, or_false] at m
  rcases m with rfl | rfl | rfl
  · exact rfl_int
  · exact rfl_int
  · exact rfl_bl
end
end Fn
namespace Fn
open PySem PySem.Spec L2 Dl Dg Fq
theorem turn77 {b : Box} {t : List Nat} {w : Nat} {s4 s5 s6 s7 : O} (ob : b.ok) (hw : w < 19) (lt : t.length ≤ 26) (ht : ∀ c ∈ t, c ≤ 122) (s0 : O) :
    ∃ b' u4 u5 u6 u7, b'.ok ∧ Dl_law_k77_2 [s0, bx b, fz (sA t), fz (nA w), s4, s5, s6, s7] = some (.nx, [s0, bx b', fz (sA t), fz (nA w), u4, u5, u6, u7]) := by
  obtain ⟨r1, b1, hr1, ob1, t1⟩ := take_x (b := b) 1999999999 1999999999 rfl ob (by decide) (by decide)
  obtain ⟨r2, b2, hr2, ob2, t2⟩ := take_x (b := b1) 1999999999 1999999999 rfl ob1 (by decide) (by decide)
  obtain ⟨x, ex⟩ : ∃ x : Int, x = (r1 : Int) - 999999999 := ⟨_, rfl⟩
  obtain ⟨y, ey⟩ : ∃ y : Int, y = (r2 : Int) - 999999999 := ⟨_, rfl⟩
  have hx : -1000000000 < x ∧ x < 1000000000 := by omega
  have hy : -1000000000 < y ∧ y < 1000000000 := by omega
  have l := late_ok (t := t) hw hx hy
  have a := base_ok hw hx hy lt
  have ne := neD_rfl (due_rfl (x := x) (y := y) (w := w) ht) (by decide)
  have pw : CPow 10 9 := pow_10_9
  have l2 : (2 : Nat) ≤ sizeLine := sz (by decide)
  have l3 : (3 : Nat) ≤ sizeLine := sz (by decide)
  have l4 : (4 : Nat) ≤ sizeLine := sz (by decide)
  have ia : ∀ w : Nat, fInS false (nA w) (.lst [.int 3, .int 14]) = some (.bl (decide (w ∈ [3, 14]))) := fun w => fInS_nat (neg := false) (xs := [3, 14])
  have ib : ∀ w : Nat, fInS false (nA w) (.lst [.int 5, .int 6]) = some (.bl (decide (w ∈ [5, 6]))) := fun w => fInS_nat (neg := false) (xs := [5, 6])
  have ic : ∀ w : Nat, fInS false (nA w) (.lst [.int 15, .int 16]) = some (.bl (decide (w ∈ [15, 16]))) := fun w => fInS_nat (neg := false) (xs := [15, 16])
  have cm : CMul 2 1000000000 := by unfold CMul; decide
  refine ⟨b2, fz (.int x), fz (.int y), fz (.lst (dueE w x y t)), fz (.lst (dueE w x y t)), ob2, ?_⟩
  by_cases c10 : w < 10
  · have e := early_ok (t := t) c10 hx hy lt
    have c : w = 0 ∨ w = 1 ∨ w = 2 ∨ w = 3 ∨ w = 4 ∨ w = 5 ∨ w = 6 ∨ w = 7 ∨ w = 8 ∨ w = 9 := by omega
    rcases c with rfl | rfl | rfl | rfl | rfl | rfl | rfl | rfl | rfl | rfl
    all_goals
      simp only [dueE] at *
      simp at l a ne e
      simp [Dl_law_k77_2, t1, t2, pw, cm, l2, l3, l4, ia, ib, ic, ← ex, ← ey, l, e, a, ne]
  · have c : w = 10 ∨ w = 11 ∨ w = 12 ∨ w = 13 ∨ w = 14 ∨ w = 15 ∨ w = 16 ∨ w = 17 ∨ w = 18 := by omega
    rcases c with rfl | rfl | rfl | rfl | rfl | rfl | rfl | rfl | rfl
    all_goals
      simp only [dueE] at *
      simp at l a ne
      simp [Dl_law_k77_2, t1, t2, pw, cm, l2, l3, l4, ia, ib, ic, ← ex, ← ey, l, a, ne]
/-- the law keeps -/
theorem law_k77 (cs : List Int) (pos : ∀ c ∈ cs, 0 ≤ c) : ∃ env', Dr_law_k77_v2 (.un :: .fl (.lst [.lst (cs.map A.int), .int 0, .int 0, .int 0]) :: List.replicate 6 .un) = some (.rt (.fl (.fz (.bl true))), env') := by
  obtain ⟨b0, ob0, eb⟩ := start_box (cs := cs) pos
  rw [eb]
  obtain ⟨k, b1, hk, ob1, t1⟩ := take_x (b := b0) 4 4 rfl ob0 (by decide) (by decide)
  obtain ⟨ls, b2, ob2, ll, _, rg, e2⟩ := letters_ok (b := b1) (k := k) ob1 (by omega)
  have jn : mJoin (Str.ofString "") [.lst (ls.map cA)] = some (sA ls) := join_c (l := ls) (by omega)
  have it : ∀ env : Dl.Env, rgK (.int 19, env) = some ((List.range 19).map nA, env) := fun env => rgK_nat (n := 19) (.of (by decide))
  obtain ⟨env', lo, b3, s3, s4, s5, s6, s7, rfl, ob3⟩ := loopG_rg (h := hName 3) (b := Dl_law_k77_2) (n := 19) (env := [.un, bx b2, fz (sA ls), .un, .un, .un, .un, .un])
    (fun _ env => ∃ (b : Box) (s3 s4 s5 s6 s7 : O), env = [.un, bx b, fz (sA ls), s3, s4, s5, s6, s7] ∧ b.ok)
    (by
      rintro i env hi ⟨b, s3, s4, s5, s6, s7, rfl, ob⟩
      obtain ⟨b', u4, u5, u6, u7, ob', e⟩ := turn77 (t := ls) (s4 := s4) (s5 := s5) (s6 := s6) (s7 := s7) ob hi (by omega) (fun c m => (rg c m).2) .un
      exact ⟨_, _, rfl, e, b', _, u4, u5, u6, u7, rfl, ob'⟩) ⟨b2, _, _, _, _, _, rfl, ob2⟩
  generalize (List.range 19).map nA = RG at *
  simp [Dr_law_k77_v2, gMs_ev, t1, e2, jn, it, lo]
end Fn
namespace Dg
open PySem PySem.Spec L2 Dl
section
open Eb
variable {P : Program} {w : World} {K : PySem.W.Frag} {mg : Str → Option Value} {base : Heap}
theorem scBadSizeI : NdefX.NScope ["self", "size", "__class__"] ["self", "size"] ["__class__"] (defScope sBadSizeI) := NdefX.nscope_by (by decide +kernel)
theorem ok_BadSizeI {f C : Addr} {fd : FuncData} (F : ErT P K mg C "BadSize.__init__" sBadSizeI f fd) (hno0 : PySem.W.findIn K (.ref C) "size" = some none) : FnOk P w K mg base CX0 1 f fd ["self", "size"] (spEr C ["size"]) := by
  obtain ⟨oc, ccl, cl, od, cdd, cld, an, osl, ccs, csl, cda, cc, kV, doc, pm, ct, vs0, file, tf, rfl, lk, hcd, hcode, hvs, hfile, hcell⟩ := F.ex
  refine SupX.fn_sup F.U lk hcd hcode hvs hfile hcell scBadSizeI rfl rfl rfl (fun env => ⟨_, rfl⟩) (fun env => rfl) (fun env => rfl) (fun vs H Q E h => ?_) (fun A outer s H vs Q E hr h => ?_)
  · obtain ⟨a, xs, rfl, hl, _⟩ := h
    show xs.length + 1 = _
    rw [hl]
    rfl
  · obtain ⟨a, xs, rfl, hl, hp, ha, q⟩ := h
    match xs, hl with
    | [x0], _ =>
      refine ⟨a, _, _, rfl, ha, pa_cons (pe_joined (.cons pe_str (.cons (pe_fmt (pv 1)) (.cons pe_str .nil)))) pa_nil, (pss_one (ps_ost (pv 0) (pv 1))), ?_⟩
      rcases hp x0 (by simp) with ⟨i0, rfl, h0⟩ | ⟨y0, rfl, h0⟩
      ·
        refine ⟨_, rfl, ?_, ⟨_, rfl, .inr ⟨i0, rfl, h0, _, rfl, ?_, ⟨_, rfl, ?_, ?_⟩⟩⟩⟩
        · exact Nat.le_trans (cat_le (k := 200) (show (Str.empty).length ≤ 0 from Nat.le_refl _) (show Str.length _ ≤ 200 by decide) (by decide)) (by decide)
        · exact Nat.le_trans (cat_le (k := 2121) (cat_le (k := 200) (show (Str.empty).length ≤ 0 from Nat.le_refl _) (show Str.length _ ≤ 200 by decide) (by decide)) (int_le h0) (by decide)) (by decide)
        · exact Nat.le_trans (cat_le (k := 2321) (cat_le (k := 2121) (cat_le (k := 200) (show (Str.empty).length ≤ 0 from Nat.le_refl _) (show Str.length _ ≤ 200 by decide) (by decide)) (int_le h0) (by decide)) (show Str.length _ ≤ 200 by decide) (by decide)) (by decide)
        · exact ⟨by show 1 ≤ 1000; decide, ha, _, rfl, _, rfl, a, C, rfl, F.U.T, hno0, .inl ⟨ha, fun dx h1 h2 => q _ dx h1 h2 (fun b n1 n2 => by rw [upd_ne n1, upd_ne n2]) upd_same (by rw [upd_ne h2, upd_same]; rfl)⟩⟩
      ·
        refine ⟨_, rfl, ?_, ⟨_, rfl, .inl ⟨y0, rfl, str_le (Nat.le_trans h0 (by decide)), _, rfl, ?_, ⟨_, rfl, ?_, ?_⟩⟩⟩⟩
        · exact Nat.le_trans (cat_le (k := 200) (show (Str.empty).length ≤ 0 from Nat.le_refl _) (show Str.length _ ≤ 200 by decide) (by decide)) (by decide)
        · exact Nat.le_trans (cat_le (k := 2121) (cat_le (k := 200) (show (Str.empty).length ≤ 0 from Nat.le_refl _) (show Str.length _ ≤ 200 by decide) (by decide)) h0 (by decide)) (by decide)
        · exact Nat.le_trans (cat_le (k := 2321) (cat_le (k := 2121) (cat_le (k := 200) (show (Str.empty).length ≤ 0 from Nat.le_refl _) (show Str.length _ ≤ 200 by decide) (by decide)) h0 (by decide)) (show Str.length _ ≤ 200 by decide) (by decide)) (by decide)
        · exact ⟨by show 1 ≤ 1000; decide, ha, _, rfl, _, rfl, a, C, rfl, F.U.T, hno0, .inl ⟨ha, fun dx h1 h2 => q _ dx h1 h2 (fun b n1 n2 => by rw [upd_ne n1, upd_ne n2]) upd_same (by rw [upd_ne h2, upd_same]; rfl)⟩⟩
theorem scBadTableI : NdefX.NScope ["self", "index", "__class__"] ["self", "index"] ["__class__"] (defScope sBadTableI) := NdefX.nscope_by (by decide +kernel)
theorem ok_BadTableI {f C : Addr} {fd : FuncData} (F : ErT P K mg C "BadTable.__init__" sBadTableI f fd) (hno0 : PySem.W.findIn K (.ref C) "index" = some none) : FnOk P w K mg base CX0 1 f fd ["self", "index"] (spEr C ["index"]) := by
  obtain ⟨oc, ccl, cl, od, cdd, cld, an, osl, ccs, csl, cda, cc, kV, doc, pm, ct, vs0, file, tf, rfl, lk, hcd, hcode, hvs, hfile, hcell⟩ := F.ex
  refine SupX.fn_sup F.U lk hcd hcode hvs hfile hcell scBadTableI rfl rfl rfl (fun env => ⟨_, rfl⟩) (fun env => rfl) (fun env => rfl) (fun vs H Q E h => ?_) (fun A outer s H vs Q E hr h => ?_)
  · obtain ⟨a, xs, rfl, hl, _⟩ := h
    show xs.length + 1 = _
    rw [hl]
    rfl
  · obtain ⟨a, xs, rfl, hl, hp, ha, q⟩ := h
    match xs, hl with
    | [x0], _ =>
      refine ⟨a, _, _, rfl, ha, pa_cons (pe_joined (.cons pe_str (.cons (pe_fmt (pv 1)) (.cons pe_str .nil)))) pa_nil, (pss_one (ps_ost (pv 0) (pv 1))), ?_⟩
      rcases hp x0 (by simp) with ⟨i0, rfl, h0⟩ | ⟨y0, rfl, h0⟩
      ·
        refine ⟨_, rfl, ?_, ⟨_, rfl, .inr ⟨i0, rfl, h0, _, rfl, ?_, ⟨_, rfl, ?_, ?_⟩⟩⟩⟩
        · exact Nat.le_trans (cat_le (k := 200) (show (Str.empty).length ≤ 0 from Nat.le_refl _) (show Str.length _ ≤ 200 by decide) (by decide)) (by decide)
        · exact Nat.le_trans (cat_le (k := 2121) (cat_le (k := 200) (show (Str.empty).length ≤ 0 from Nat.le_refl _) (show Str.length _ ≤ 200 by decide) (by decide)) (int_le h0) (by decide)) (by decide)
        · exact Nat.le_trans (cat_le (k := 2321) (cat_le (k := 2121) (cat_le (k := 200) (show (Str.empty).length ≤ 0 from Nat.le_refl _) (show Str.length _ ≤ 200 by decide) (by decide)) (int_le h0) (by decide)) (show Str.length _ ≤ 200 by decide) (by decide)) (by decide)
        · exact ⟨by show 1 ≤ 1000; decide, ha, _, rfl, _, rfl, a, C, rfl, F.U.T, hno0, .inl ⟨ha, fun dx h1 h2 => q _ dx h1 h2 (fun b n1 n2 => by rw [upd_ne n1, upd_ne n2]) upd_same (by rw [upd_ne h2, upd_same]; rfl)⟩⟩
      ·
        refine ⟨_, rfl, ?_, ⟨_, rfl, .inl ⟨y0, rfl, str_le (Nat.le_trans h0 (by decide)), _, rfl, ?_, ⟨_, rfl, ?_, ?_⟩⟩⟩⟩
        · exact Nat.le_trans (cat_le (k := 200) (show (Str.empty).length ≤ 0 from Nat.le_refl _) (show Str.length _ ≤ 200 by decide) (by decide)) (by decide)
        · exact Nat.le_trans (cat_le (k := 2121) (cat_le (k := 200) (show (Str.empty).length ≤ 0 from Nat.le_refl _) (show Str.length _ ≤ 200 by decide) (by decide)) h0 (by decide)) (by decide)
        · exact Nat.le_trans (cat_le (k := 2321) (cat_le (k := 2121) (cat_le (k := 200) (show (Str.empty).length ≤ 0 from Nat.le_refl _) (show Str.length _ ≤ 200 by decide) (by decide)) h0 (by decide)) (show Str.length _ ≤ 200 by decide) (by decide)) (by decide)
        · exact ⟨by show 1 ≤ 1000; decide, ha, _, rfl, _, rfl, a, C, rfl, F.U.T, hno0, .inl ⟨ha, fun dx h1 h2 => q _ dx h1 h2 (fun b n1 n2 => by rw [upd_ne n1, upd_ne n2]) upd_same (by rw [upd_ne h2, upd_same]; rfl)⟩⟩
theorem scUnknownWordI : NdefX.NScope ["self", "word", "__class__"] ["self", "word"] ["__class__"] (defScope sUnknownWordI) := NdefX.nscope_by (by decide +kernel)
theorem ok_UnknownWordI {f C : Addr} {fd : FuncData} (F : ErT P K mg C "UnknownWord.__init__" sUnknownWordI f fd) (hno0 : PySem.W.findIn K (.ref C) "word" = some none) : FnOk P w K mg base CX0 1 f fd ["self", "word"] (spEr C ["word"]) := by
  obtain ⟨oc, ccl, cl, od, cdd, cld, an, osl, ccs, csl, cda, cc, kV, doc, pm, ct, vs0, file, tf, rfl, lk, hcd, hcode, hvs, hfile, hcell⟩ := F.ex
  refine SupX.fn_sup F.U lk hcd hcode hvs hfile hcell scUnknownWordI rfl rfl rfl (fun env => ⟨_, rfl⟩) (fun env => rfl) (fun env => rfl) (fun vs H Q E h => ?_) (fun A outer s H vs Q E hr h => ?_)
  · obtain ⟨a, xs, rfl, hl, _⟩ := h
    show xs.length + 1 = _
    rw [hl]
    rfl
  · obtain ⟨a, xs, rfl, hl, hp, ha, q⟩ := h
    match xs, hl with
    | [x0], _ =>
      refine ⟨a, _, _, rfl, ha, pa_cons (pe_joined (.cons (pe_fmt (pv 1)) (.cons pe_str .nil))) pa_nil, (pss_one (ps_ost (pv 0) (pv 1))), ?_⟩
      rcases hp x0 (by simp) with ⟨i0, rfl, h0⟩ | ⟨y0, rfl, h0⟩
      ·
        refine ⟨_, rfl, .inr ⟨i0, rfl, h0, _, rfl, ?_, ⟨_, rfl, ?_, ?_⟩⟩⟩
        · exact Nat.le_trans (cat_le (k := 1921) (show (Str.empty).length ≤ 0 from Nat.le_refl _) (int_le h0) (by decide)) (by decide)
        · exact Nat.le_trans (cat_le (k := 2121) (cat_le (k := 1921) (show (Str.empty).length ≤ 0 from Nat.le_refl _) (int_le h0) (by decide)) (show Str.length _ ≤ 200 by decide) (by decide)) (by decide)
        · exact ⟨by show 1 ≤ 1000; decide, ha, _, rfl, _, rfl, a, C, rfl, F.U.T, hno0, .inl ⟨ha, fun dx h1 h2 => q _ dx h1 h2 (fun b n1 n2 => by rw [upd_ne n1, upd_ne n2]) upd_same (by rw [upd_ne h2, upd_same]; rfl)⟩⟩
      ·
        refine ⟨_, rfl, .inl ⟨y0, rfl, str_le (Nat.le_trans h0 (by decide)), _, rfl, ?_, ⟨_, rfl, ?_, ?_⟩⟩⟩
        · exact Nat.le_trans (cat_le (k := 1921) (show (Str.empty).length ≤ 0 from Nat.le_refl _) h0 (by decide)) (by decide)
        · exact Nat.le_trans (cat_le (k := 2121) (cat_le (k := 1921) (show (Str.empty).length ≤ 0 from Nat.le_refl _) h0 (by decide)) (show Str.length _ ≤ 200 by decide) (by decide)) (by decide)
        · exact ⟨by show 1 ≤ 1000; decide, ha, _, rfl, _, rfl, a, C, rfl, F.U.T, hno0, .inl ⟨ha, fun dx h1 h2 => q _ dx h1 h2 (fun b n1 n2 => by rw [upd_ne n1, upd_ne n2]) upd_same (by rw [upd_ne h2, upd_same]; rfl)⟩⟩
theorem scSizeMismatchI : NdefX.NScope ["self", "first", "second", "__class__"] ["self", "first", "second"] ["__class__"] (defScope sSizeMismatchI) := NdefX.nscope_by (by decide +kernel)
theorem ok_SizeMismatchI {f C : Addr} {fd : FuncData} (F : ErT P K mg C "SizeMismatch.__init__" sSizeMismatchI f fd) (hno0 : PySem.W.findIn K (.ref C) "first" = some none) (hno1 : PySem.W.findIn K (.ref C) "second" = some none) : FnOk P w K mg base CX0 1 f fd ["self", "first", "second"] (spEr C ["first", "second"]) := by
  obtain ⟨oc, ccl, cl, od, cdd, cld, an, osl, ccs, csl, cda, cc, kV, doc, pm, ct, vs0, file, tf, rfl, lk, hcd, hcode, hvs, hfile, hcell⟩ := F.ex
  refine SupX.fn_sup F.U lk hcd hcode hvs hfile hcell scSizeMismatchI rfl rfl rfl (fun env => ⟨_, rfl⟩) (fun env => rfl) (fun env => rfl) (fun vs H Q E h => ?_) (fun A outer s H vs Q E hr h => ?_)
  · obtain ⟨a, xs, rfl, hl, _⟩ := h
    show xs.length + 1 = _
    rw [hl]
    rfl
  · obtain ⟨a, xs, rfl, hl, hp, ha, q⟩ := h
    match xs, hl with
    | [x0, x1], _ =>
      refine ⟨a, _, _, rfl, ha, pa_cons (pe_joined (.cons pe_str (.cons (pe_fmt (pv 1)) (.cons pe_str (.cons (pe_fmt (pv 2)) (.cons pe_str .nil)))))) pa_nil, (pss_cons (ps_ost (pv 0) (pv 1)) (pss_one (ps_ost (pv 0) (pv 2)))), ?_⟩
      rcases hp x0 (by simp) with ⟨i0, rfl, h0⟩ | ⟨y0, rfl, h0⟩
      ·
        rcases hp x1 (by simp) with ⟨i1, rfl, h1⟩ | ⟨y1, rfl, h1⟩
        ·
          refine ⟨_, rfl, ?_, ⟨_, rfl, .inr ⟨i0, rfl, h0, _, rfl, ?_, ⟨_, rfl, ?_, ⟨_, rfl, .inr ⟨i1, rfl, h1, _, rfl, ?_, ⟨_, rfl, ?_, ?_⟩⟩⟩⟩⟩⟩⟩
          · exact Nat.le_trans (cat_le (k := 200) (show (Str.empty).length ≤ 0 from Nat.le_refl _) (show Str.length _ ≤ 200 by decide) (by decide)) (by decide)
          · exact Nat.le_trans (cat_le (k := 2121) (cat_le (k := 200) (show (Str.empty).length ≤ 0 from Nat.le_refl _) (show Str.length _ ≤ 200 by decide) (by decide)) (int_le h0) (by decide)) (by decide)
          · exact Nat.le_trans (cat_le (k := 2321) (cat_le (k := 2121) (cat_le (k := 200) (show (Str.empty).length ≤ 0 from Nat.le_refl _) (show Str.length _ ≤ 200 by decide) (by decide)) (int_le h0) (by decide)) (show Str.length _ ≤ 200 by decide) (by decide)) (by decide)
          · exact Nat.le_trans (cat_le (k := 4242) (cat_le (k := 2321) (cat_le (k := 2121) (cat_le (k := 200) (show (Str.empty).length ≤ 0 from Nat.le_refl _) (show Str.length _ ≤ 200 by decide) (by decide)) (int_le h0) (by decide)) (show Str.length _ ≤ 200 by decide) (by decide)) (int_le h1) (by decide)) (by decide)
          · exact Nat.le_trans (cat_le (k := 4442) (cat_le (k := 4242) (cat_le (k := 2321) (cat_le (k := 2121) (cat_le (k := 200) (show (Str.empty).length ≤ 0 from Nat.le_refl _) (show Str.length _ ≤ 200 by decide) (by decide)) (int_le h0) (by decide)) (show Str.length _ ≤ 200 by decide) (by decide)) (int_le h1) (by decide)) (show Str.length _ ≤ 200 by decide) (by decide)) (by decide)
          · exact ⟨by show 1 ≤ 1000; decide, ha, _, rfl, _, rfl, a, C, rfl, F.U.T, hno0, .inl ⟨ha, fun dx h1 h2 => ⟨_, rfl, _, rfl, a, C, rfl, F.U.T, hno1, .inr ⟨dx, _, upd_same, (upd_ne h2).trans upd_same, by show 1 ≤ 900; decide, q _ dx h1 h2 (fun b n1 n2 => by rw [upd_ne n2, upd_ne n1, upd_ne n2]) (by rw [upd_ne (Ne.symm h2), upd_same]) (by rw [upd_same]; rfl)⟩⟩⟩⟩
        ·
          refine ⟨_, rfl, ?_, ⟨_, rfl, .inr ⟨i0, rfl, h0, _, rfl, ?_, ⟨_, rfl, ?_, ⟨_, rfl, .inl ⟨y1, rfl, str_le (Nat.le_trans h1 (by decide)), _, rfl, ?_, ⟨_, rfl, ?_, ?_⟩⟩⟩⟩⟩⟩⟩
          · exact Nat.le_trans (cat_le (k := 200) (show (Str.empty).length ≤ 0 from Nat.le_refl _) (show Str.length _ ≤ 200 by decide) (by decide)) (by decide)
          · exact Nat.le_trans (cat_le (k := 2121) (cat_le (k := 200) (show (Str.empty).length ≤ 0 from Nat.le_refl _) (show Str.length _ ≤ 200 by decide) (by decide)) (int_le h0) (by decide)) (by decide)
          · exact Nat.le_trans (cat_le (k := 2321) (cat_le (k := 2121) (cat_le (k := 200) (show (Str.empty).length ≤ 0 from Nat.le_refl _) (show Str.length _ ≤ 200 by decide) (by decide)) (int_le h0) (by decide)) (show Str.length _ ≤ 200 by decide) (by decide)) (by decide)
          · exact Nat.le_trans (cat_le (k := 4242) (cat_le (k := 2321) (cat_le (k := 2121) (cat_le (k := 200) (show (Str.empty).length ≤ 0 from Nat.le_refl _) (show Str.length _ ≤ 200 by decide) (by decide)) (int_le h0) (by decide)) (show Str.length _ ≤ 200 by decide) (by decide)) h1 (by decide)) (by decide)
          · exact Nat.le_trans (cat_le (k := 4442) (cat_le (k := 4242) (cat_le (k := 2321) (cat_le (k := 2121) (cat_le (k := 200) (show (Str.empty).length ≤ 0 from Nat.le_refl _) (show Str.length _ ≤ 200 by decide) (by decide)) (int_le h0) (by decide)) (show Str.length _ ≤ 200 by decide) (by decide)) h1 (by decide)) (show Str.length _ ≤ 200 by decide) (by decide)) (by decide)
          · exact ⟨by show 1 ≤ 1000; decide, ha, _, rfl, _, rfl, a, C, rfl, F.U.T, hno0, .inl ⟨ha, fun dx h1 h2 => ⟨_, rfl, _, rfl, a, C, rfl, F.U.T, hno1, .inr ⟨dx, _, upd_same, (upd_ne h2).trans upd_same, by show 1 ≤ 900; decide, q _ dx h1 h2 (fun b n1 n2 => by rw [upd_ne n2, upd_ne n1, upd_ne n2]) (by rw [upd_ne (Ne.symm h2), upd_same]) (by rw [upd_same]; rfl)⟩⟩⟩⟩
      ·
        rcases hp x1 (by simp) with ⟨i1, rfl, h1⟩ | ⟨y1, rfl, h1⟩
        ·
          refine ⟨_, rfl, ?_, ⟨_, rfl, .inl ⟨y0, rfl, str_le (Nat.le_trans h0 (by decide)), _, rfl, ?_, ⟨_, rfl, ?_, ⟨_, rfl, .inr ⟨i1, rfl, h1, _, rfl, ?_, ⟨_, rfl, ?_, ?_⟩⟩⟩⟩⟩⟩⟩
          · exact Nat.le_trans (cat_le (k := 200) (show (Str.empty).length ≤ 0 from Nat.le_refl _) (show Str.length _ ≤ 200 by decide) (by decide)) (by decide)
          · exact Nat.le_trans (cat_le (k := 2121) (cat_le (k := 200) (show (Str.empty).length ≤ 0 from Nat.le_refl _) (show Str.length _ ≤ 200 by decide) (by decide)) h0 (by decide)) (by decide)
          · exact Nat.le_trans (cat_le (k := 2321) (cat_le (k := 2121) (cat_le (k := 200) (show (Str.empty).length ≤ 0 from Nat.le_refl _) (show Str.length _ ≤ 200 by decide) (by decide)) h0 (by decide)) (show Str.length _ ≤ 200 by decide) (by decide)) (by decide)
          · exact Nat.le_trans (cat_le (k := 4242) (cat_le (k := 2321) (cat_le (k := 2121) (cat_le (k := 200) (show (Str.empty).length ≤ 0 from Nat.le_refl _) (show Str.length _ ≤ 200 by decide) (by decide)) h0 (by decide)) (show Str.length _ ≤ 200 by decide) (by decide)) (int_le h1) (by decide)) (by decide)
          · exact Nat.le_trans (cat_le (k := 4442) (cat_le (k := 4242) (cat_le (k := 2321) (cat_le (k := 2121) (cat_le (k := 200) (show (Str.empty).length ≤ 0 from Nat.le_refl _) (show Str.length _ ≤ 200 by decide) (by decide)) h0 (by decide)) (show Str.length _ ≤ 200 by decide) (by decide)) (int_le h1) (by decide)) (show Str.length _ ≤ 200 by decide) (by decide)) (by decide)
          · exact ⟨by show 1 ≤ 1000; decide, ha, _, rfl, _, rfl, a, C, rfl, F.U.T, hno0, .inl ⟨ha, fun dx h1 h2 => ⟨_, rfl, _, rfl, a, C, rfl, F.U.T, hno1, .inr ⟨dx, _, upd_same, (upd_ne h2).trans upd_same, by show 1 ≤ 900; decide, q _ dx h1 h2 (fun b n1 n2 => by rw [upd_ne n2, upd_ne n1, upd_ne n2]) (by rw [upd_ne (Ne.symm h2), upd_same]) (by rw [upd_same]; rfl)⟩⟩⟩⟩
        ·
          refine ⟨_, rfl, ?_, ⟨_, rfl, .inl ⟨y0, rfl, str_le (Nat.le_trans h0 (by decide)), _, rfl, ?_, ⟨_, rfl, ?_, ⟨_, rfl, .inl ⟨y1, rfl, str_le (Nat.le_trans h1 (by decide)), _, rfl, ?_, ⟨_, rfl, ?_, ?_⟩⟩⟩⟩⟩⟩⟩
          · exact Nat.le_trans (cat_le (k := 200) (show (Str.empty).length ≤ 0 from Nat.le_refl _) (show Str.length _ ≤ 200 by decide) (by decide)) (by decide)
          · exact Nat.le_trans (cat_le (k := 2121) (cat_le (k := 200) (show (Str.empty).length ≤ 0 from Nat.le_refl _) (show Str.length _ ≤ 200 by decide) (by decide)) h0 (by decide)) (by decide)
          · exact Nat.le_trans (cat_le (k := 2321) (cat_le (k := 2121) (cat_le (k := 200) (show (Str.empty).length ≤ 0 from Nat.le_refl _) (show Str.length _ ≤ 200 by decide) (by decide)) h0 (by decide)) (show Str.length _ ≤ 200 by decide) (by decide)) (by decide)
          · exact Nat.le_trans (cat_le (k := 4242) (cat_le (k := 2321) (cat_le (k := 2121) (cat_le (k := 200) (show (Str.empty).length ≤ 0 from Nat.le_refl _) (show Str.length _ ≤ 200 by decide) (by decide)) h0 (by decide)) (show Str.length _ ≤ 200 by decide) (by decide)) h1 (by decide)) (by decide)
          · exact Nat.le_trans (cat_le (k := 4442) (cat_le (k := 4242) (cat_le (k := 2321) (cat_le (k := 2121) (cat_le (k := 200) (show (Str.empty).length ≤ 0 from Nat.le_refl _) (show Str.length _ ≤ 200 by decide) (by decide)) h0 (by decide)) (show Str.length _ ≤ 200 by decide) (by decide)) h1 (by decide)) (show Str.length _ ≤ 200 by decide) (by decide)) (by decide)
          · exact ⟨by show 1 ≤ 1000; decide, ha, _, rfl, _, rfl, a, C, rfl, F.U.T, hno0, .inl ⟨ha, fun dx h1 h2 => ⟨_, rfl, _, rfl, a, C, rfl, F.U.T, hno1, .inr ⟨dx, _, upd_same, (upd_ne h2).trans upd_same, by show 1 ≤ 900; decide, q _ dx h1 h2 (fun b n1 n2 => by rw [upd_ne n2, upd_ne n1, upd_ne n2]) (by rw [upd_ne (Ne.symm h2), upd_same]) (by rw [upd_same]; rfl)⟩⟩⟩⟩
theorem scBadCountI : NdefX.NScope ["self", "count", "__class__"] ["self", "count"] ["__class__"] (defScope sBadCountI) := NdefX.nscope_by (by decide +kernel)
theorem ok_BadCountI {f C : Addr} {fd : FuncData} (F : ErT P K mg C "BadCount.__init__" sBadCountI f fd) (hno0 : PySem.W.findIn K (.ref C) "count" = some none) : FnOk P w K mg base CX0 1 f fd ["self", "count"] (spEr C ["count"]) := by
  obtain ⟨oc, ccl, cl, od, cdd, cld, an, osl, ccs, csl, cda, cc, kV, doc, pm, ct, vs0, file, tf, rfl, lk, hcd, hcode, hvs, hfile, hcell⟩ := F.ex
  refine SupX.fn_sup F.U lk hcd hcode hvs hfile hcell scBadCountI rfl rfl rfl (fun env => ⟨_, rfl⟩) (fun env => rfl) (fun env => rfl) (fun vs H Q E h => ?_) (fun A outer s H vs Q E hr h => ?_)
  · obtain ⟨a, xs, rfl, hl, _⟩ := h
    show xs.length + 1 = _
    rw [hl]
    rfl
  · obtain ⟨a, xs, rfl, hl, hp, ha, q⟩ := h
    match xs, hl with
    | [x0], _ =>
      refine ⟨a, _, _, rfl, ha, pa_cons (pe_joined (.cons pe_str (.cons (pe_fmt (pv 1)) (.cons pe_str .nil)))) pa_nil, (pss_one (ps_ost (pv 0) (pv 1))), ?_⟩
      rcases hp x0 (by simp) with ⟨i0, rfl, h0⟩ | ⟨y0, rfl, h0⟩
      ·
        refine ⟨_, rfl, ?_, ⟨_, rfl, .inr ⟨i0, rfl, h0, _, rfl, ?_, ⟨_, rfl, ?_, ?_⟩⟩⟩⟩
        · exact Nat.le_trans (cat_le (k := 200) (show (Str.empty).length ≤ 0 from Nat.le_refl _) (show Str.length _ ≤ 200 by decide) (by decide)) (by decide)
        · exact Nat.le_trans (cat_le (k := 2121) (cat_le (k := 200) (show (Str.empty).length ≤ 0 from Nat.le_refl _) (show Str.length _ ≤ 200 by decide) (by decide)) (int_le h0) (by decide)) (by decide)
        · exact Nat.le_trans (cat_le (k := 2321) (cat_le (k := 2121) (cat_le (k := 200) (show (Str.empty).length ≤ 0 from Nat.le_refl _) (show Str.length _ ≤ 200 by decide) (by decide)) (int_le h0) (by decide)) (show Str.length _ ≤ 200 by decide) (by decide)) (by decide)
        · exact ⟨by show 1 ≤ 1000; decide, ha, _, rfl, _, rfl, a, C, rfl, F.U.T, hno0, .inl ⟨ha, fun dx h1 h2 => q _ dx h1 h2 (fun b n1 n2 => by rw [upd_ne n1, upd_ne n2]) upd_same (by rw [upd_ne h2, upd_same]; rfl)⟩⟩
      ·
        refine ⟨_, rfl, ?_, ⟨_, rfl, .inl ⟨y0, rfl, str_le (Nat.le_trans h0 (by decide)), _, rfl, ?_, ⟨_, rfl, ?_, ?_⟩⟩⟩⟩
        · exact Nat.le_trans (cat_le (k := 200) (show (Str.empty).length ≤ 0 from Nat.le_refl _) (show Str.length _ ≤ 200 by decide) (by decide)) (by decide)
        · exact Nat.le_trans (cat_le (k := 2121) (cat_le (k := 200) (show (Str.empty).length ≤ 0 from Nat.le_refl _) (show Str.length _ ≤ 200 by decide) (by decide)) h0 (by decide)) (by decide)
        · exact Nat.le_trans (cat_le (k := 2321) (cat_le (k := 2121) (cat_le (k := 200) (show (Str.empty).length ≤ 0 from Nat.le_refl _) (show Str.length _ ≤ 200 by decide) (by decide)) h0 (by decide)) (show Str.length _ ≤ 200 by decide) (by decide)) (by decide)
        · exact ⟨by show 1 ≤ 1000; decide, ha, _, rfl, _, rfl, a, C, rfl, F.U.T, hno0, .inl ⟨ha, fun dx h1 h2 => q _ dx h1 h2 (fun b n1 n2 => by rw [upd_ne n1, upd_ne n2]) upd_same (by rw [upd_ne h2, upd_same]; rfl)⟩⟩
theorem scBadPersonI : NdefX.NScope ["self", "part", "__class__"] ["self", "part"] ["__class__"] (defScope sBadPersonI) := NdefX.nscope_by (by decide +kernel)
theorem ok_BadPersonI {f C : Addr} {fd : FuncData} (F : ErT P K mg C "BadPerson.__init__" sBadPersonI f fd) (hno0 : PySem.W.findIn K (.ref C) "part" = some none) : FnOk P w K mg base CX0 1 f fd ["self", "part"] (spEr C ["part"]) := by
  obtain ⟨oc, ccl, cl, od, cdd, cld, an, osl, ccs, csl, cda, cc, kV, doc, pm, ct, vs0, file, tf, rfl, lk, hcd, hcode, hvs, hfile, hcell⟩ := F.ex
  refine SupX.fn_sup F.U lk hcd hcode hvs hfile hcell scBadPersonI rfl rfl rfl (fun env => ⟨_, rfl⟩) (fun env => rfl) (fun env => rfl) (fun vs H Q E h => ?_) (fun A outer s H vs Q E hr h => ?_)
  · obtain ⟨a, xs, rfl, hl, _⟩ := h
    show xs.length + 1 = _
    rw [hl]
    rfl
  · obtain ⟨a, xs, rfl, hl, hp, ha, q⟩ := h
    match xs, hl with
    | [x0], _ =>
      refine ⟨a, _, _, rfl, ha, pa_cons (pe_joined (.cons pe_str (.cons (pe_fmt (pv 1)) (.cons pe_str .nil)))) pa_nil, (pss_one (ps_ost (pv 0) (pv 1))), ?_⟩
      rcases hp x0 (by simp) with ⟨i0, rfl, h0⟩ | ⟨y0, rfl, h0⟩
      ·
        refine ⟨_, rfl, ?_, ⟨_, rfl, .inr ⟨i0, rfl, h0, _, rfl, ?_, ⟨_, rfl, ?_, ?_⟩⟩⟩⟩
        · exact Nat.le_trans (cat_le (k := 200) (show (Str.empty).length ≤ 0 from Nat.le_refl _) (show Str.length _ ≤ 200 by decide) (by decide)) (by decide)
        · exact Nat.le_trans (cat_le (k := 2121) (cat_le (k := 200) (show (Str.empty).length ≤ 0 from Nat.le_refl _) (show Str.length _ ≤ 200 by decide) (by decide)) (int_le h0) (by decide)) (by decide)
        · exact Nat.le_trans (cat_le (k := 2321) (cat_le (k := 2121) (cat_le (k := 200) (show (Str.empty).length ≤ 0 from Nat.le_refl _) (show Str.length _ ≤ 200 by decide) (by decide)) (int_le h0) (by decide)) (show Str.length _ ≤ 200 by decide) (by decide)) (by decide)
        · exact ⟨by show 1 ≤ 1000; decide, ha, _, rfl, _, rfl, a, C, rfl, F.U.T, hno0, .inl ⟨ha, fun dx h1 h2 => q _ dx h1 h2 (fun b n1 n2 => by rw [upd_ne n1, upd_ne n2]) upd_same (by rw [upd_ne h2, upd_same]; rfl)⟩⟩
      ·
        refine ⟨_, rfl, ?_, ⟨_, rfl, .inl ⟨y0, rfl, str_le (Nat.le_trans h0 (by decide)), _, rfl, ?_, ⟨_, rfl, ?_, ?_⟩⟩⟩⟩
        · exact Nat.le_trans (cat_le (k := 200) (show (Str.empty).length ≤ 0 from Nat.le_refl _) (show Str.length _ ≤ 200 by decide) (by decide)) (by decide)
        · exact Nat.le_trans (cat_le (k := 2121) (cat_le (k := 200) (show (Str.empty).length ≤ 0 from Nat.le_refl _) (show Str.length _ ≤ 200 by decide) (by decide)) h0 (by decide)) (by decide)
        · exact Nat.le_trans (cat_le (k := 2321) (cat_le (k := 2121) (cat_le (k := 200) (show (Str.empty).length ≤ 0 from Nat.le_refl _) (show Str.length _ ≤ 200 by decide) (by decide)) h0 (by decide)) (show Str.length _ ≤ 200 by decide) (by decide)) (by decide)
        · exact ⟨by show 1 ≤ 1000; decide, ha, _, rfl, _, rfl, a, C, rfl, F.U.T, hno0, .inl ⟨ha, fun dx h1 h2 => q _ dx h1 h2 (fun b n1 n2 => by rw [upd_ne n1, upd_ne n2]) upd_same (by rw [upd_ne h2, upd_same]; rfl)⟩⟩
theorem scBadLetterI : NdefX.NScope ["self", "letter", "__class__"] ["self", "letter"] ["__class__"] (defScope sBadLetterI) := NdefX.nscope_by (by decide +kernel)
theorem ok_BadLetterI {f C : Addr} {fd : FuncData} (F : ErT P K mg C "BadLetter.__init__" sBadLetterI f fd) (hno0 : PySem.W.findIn K (.ref C) "letter" = some none) : FnOk P w K mg base CX0 1 f fd ["self", "letter"] (spEr C ["letter"]) := by
  obtain ⟨oc, ccl, cl, od, cdd, cld, an, osl, ccs, csl, cda, cc, kV, doc, pm, ct, vs0, file, tf, rfl, lk, hcd, hcode, hvs, hfile, hcell⟩ := F.ex
  refine SupX.fn_sup F.U lk hcd hcode hvs hfile hcell scBadLetterI rfl rfl rfl (fun env => ⟨_, rfl⟩) (fun env => rfl) (fun env => rfl) (fun vs H Q E h => ?_) (fun A outer s H vs Q E hr h => ?_)
  · obtain ⟨a, xs, rfl, hl, _⟩ := h
    show xs.length + 1 = _
    rw [hl]
    rfl
  · obtain ⟨a, xs, rfl, hl, hp, ha, q⟩ := h
    match xs, hl with
    | [x0], _ =>
      refine ⟨a, _, _, rfl, ha, pa_cons (pe_joined (.cons pe_str (.cons (pe_fmt (pv 1)) .nil))) pa_nil, (pss_one (ps_ost (pv 0) (pv 1))), ?_⟩
      rcases hp x0 (by simp) with ⟨i0, rfl, h0⟩ | ⟨y0, rfl, h0⟩
      ·
        refine ⟨_, rfl, ?_, ⟨_, rfl, .inr ⟨i0, rfl, h0, _, rfl, ?_, ?_⟩⟩⟩
        · exact Nat.le_trans (cat_le (k := 200) (show (Str.empty).length ≤ 0 from Nat.le_refl _) (show Str.length _ ≤ 200 by decide) (by decide)) (by decide)
        · exact Nat.le_trans (cat_le (k := 2121) (cat_le (k := 200) (show (Str.empty).length ≤ 0 from Nat.le_refl _) (show Str.length _ ≤ 200 by decide) (by decide)) (int_le h0) (by decide)) (by decide)
        · exact ⟨by show 1 ≤ 1000; decide, ha, _, rfl, _, rfl, a, C, rfl, F.U.T, hno0, .inl ⟨ha, fun dx h1 h2 => q _ dx h1 h2 (fun b n1 n2 => by rw [upd_ne n1, upd_ne n2]) upd_same (by rw [upd_ne h2, upd_same]; rfl)⟩⟩
      ·
        refine ⟨_, rfl, ?_, ⟨_, rfl, .inl ⟨y0, rfl, str_le (Nat.le_trans h0 (by decide)), _, rfl, ?_, ?_⟩⟩⟩
        · exact Nat.le_trans (cat_le (k := 200) (show (Str.empty).length ≤ 0 from Nat.le_refl _) (show Str.length _ ≤ 200 by decide) (by decide)) (by decide)
        · exact Nat.le_trans (cat_le (k := 2121) (cat_le (k := 200) (show (Str.empty).length ≤ 0 from Nat.le_refl _) (show Str.length _ ≤ 200 by decide) (by decide)) h0 (by decide)) (by decide)
        · exact ⟨by show 1 ≤ 1000; decide, ha, _, rfl, _, rfl, a, C, rfl, F.U.T, hno0, .inl ⟨ha, fun dx h1 h2 => q _ dx h1 h2 (fun b n1 n2 => by rw [upd_ne n1, upd_ne n2]) upd_same (by rw [upd_ne h2, upd_same]; rfl)⟩⟩
theorem scUnknownPersonI : NdefX.NScope ["self", "letter", "place", "__class__"] ["self", "letter", "place"] ["__class__"] (defScope sUnknownPersonI) := NdefX.nscope_by (by decide +kernel)
theorem ok_UnknownPersonI {f C : Addr} {fd : FuncData} (F : ErT P K mg C "UnknownPerson.__init__" sUnknownPersonI f fd) (hno0 : PySem.W.findIn K (.ref C) "letter" = some none) (hno1 : PySem.W.findIn K (.ref C) "place" = some none) : FnOk P w K mg base CX0 1 f fd ["self", "letter", "place"] (spEr C ["letter", "place"]) := by
  obtain ⟨oc, ccl, cl, od, cdd, cld, an, osl, ccs, csl, cda, cc, kV, doc, pm, ct, vs0, file, tf, rfl, lk, hcd, hcode, hvs, hfile, hcell⟩ := F.ex
  refine SupX.fn_sup F.U lk hcd hcode hvs hfile hcell scUnknownPersonI rfl rfl rfl (fun env => ⟨_, rfl⟩) (fun env => rfl) (fun env => rfl) (fun vs H Q E h => ?_) (fun A outer s H vs Q E hr h => ?_)
  · obtain ⟨a, xs, rfl, hl, _⟩ := h
    show xs.length + 1 = _
    rw [hl]
    rfl
  · obtain ⟨a, xs, rfl, hl, hp, ha, q⟩ := h
    match xs, hl with
    | [x0, x1], _ =>
      refine ⟨a, _, _, rfl, ha, pa_cons (pe_joined (.cons pe_str (.cons (pe_fmt (pv 2)) (.cons pe_str (.cons (pe_fmt (pv 1)) .nil))))) pa_nil, (pss_cons (ps_ost (pv 0) (pv 1)) (pss_one (ps_ost (pv 0) (pv 2)))), ?_⟩
      rcases hp x0 (by simp) with ⟨i0, rfl, h0⟩ | ⟨y0, rfl, h0⟩
      ·
        rcases hp x1 (by simp) with ⟨i1, rfl, h1⟩ | ⟨y1, rfl, h1⟩
        ·
          refine ⟨_, rfl, ?_, ⟨_, rfl, .inr ⟨i1, rfl, h1, _, rfl, ?_, ⟨_, rfl, ?_, ⟨_, rfl, .inr ⟨i0, rfl, h0, _, rfl, ?_, ?_⟩⟩⟩⟩⟩⟩
          · exact Nat.le_trans (cat_le (k := 200) (show (Str.empty).length ≤ 0 from Nat.le_refl _) (show Str.length _ ≤ 200 by decide) (by decide)) (by decide)
          · exact Nat.le_trans (cat_le (k := 2121) (cat_le (k := 200) (show (Str.empty).length ≤ 0 from Nat.le_refl _) (show Str.length _ ≤ 200 by decide) (by decide)) (int_le h1) (by decide)) (by decide)
          · exact Nat.le_trans (cat_le (k := 2321) (cat_le (k := 2121) (cat_le (k := 200) (show (Str.empty).length ≤ 0 from Nat.le_refl _) (show Str.length _ ≤ 200 by decide) (by decide)) (int_le h1) (by decide)) (show Str.length _ ≤ 200 by decide) (by decide)) (by decide)
          · exact Nat.le_trans (cat_le (k := 4242) (cat_le (k := 2321) (cat_le (k := 2121) (cat_le (k := 200) (show (Str.empty).length ≤ 0 from Nat.le_refl _) (show Str.length _ ≤ 200 by decide) (by decide)) (int_le h1) (by decide)) (show Str.length _ ≤ 200 by decide) (by decide)) (int_le h0) (by decide)) (by decide)
          · exact ⟨by show 1 ≤ 1000; decide, ha, _, rfl, _, rfl, a, C, rfl, F.U.T, hno0, .inl ⟨ha, fun dx h1 h2 => ⟨_, rfl, _, rfl, a, C, rfl, F.U.T, hno1, .inr ⟨dx, _, upd_same, (upd_ne h2).trans upd_same, by show 1 ≤ 900; decide, q _ dx h1 h2 (fun b n1 n2 => by rw [upd_ne n2, upd_ne n1, upd_ne n2]) (by rw [upd_ne (Ne.symm h2), upd_same]) (by rw [upd_same]; rfl)⟩⟩⟩⟩
        ·
          refine ⟨_, rfl, ?_, ⟨_, rfl, .inl ⟨y1, rfl, str_le (Nat.le_trans h1 (by decide)), _, rfl, ?_, ⟨_, rfl, ?_, ⟨_, rfl, .inr ⟨i0, rfl, h0, _, rfl, ?_, ?_⟩⟩⟩⟩⟩⟩
          · exact Nat.le_trans (cat_le (k := 200) (show (Str.empty).length ≤ 0 from Nat.le_refl _) (show Str.length _ ≤ 200 by decide) (by decide)) (by decide)
          · exact Nat.le_trans (cat_le (k := 2121) (cat_le (k := 200) (show (Str.empty).length ≤ 0 from Nat.le_refl _) (show Str.length _ ≤ 200 by decide) (by decide)) h1 (by decide)) (by decide)
          · exact Nat.le_trans (cat_le (k := 2321) (cat_le (k := 2121) (cat_le (k := 200) (show (Str.empty).length ≤ 0 from Nat.le_refl _) (show Str.length _ ≤ 200 by decide) (by decide)) h1 (by decide)) (show Str.length _ ≤ 200 by decide) (by decide)) (by decide)
          · exact Nat.le_trans (cat_le (k := 4242) (cat_le (k := 2321) (cat_le (k := 2121) (cat_le (k := 200) (show (Str.empty).length ≤ 0 from Nat.le_refl _) (show Str.length _ ≤ 200 by decide) (by decide)) h1 (by decide)) (show Str.length _ ≤ 200 by decide) (by decide)) (int_le h0) (by decide)) (by decide)
          · exact ⟨by show 1 ≤ 1000; decide, ha, _, rfl, _, rfl, a, C, rfl, F.U.T, hno0, .inl ⟨ha, fun dx h1 h2 => ⟨_, rfl, _, rfl, a, C, rfl, F.U.T, hno1, .inr ⟨dx, _, upd_same, (upd_ne h2).trans upd_same, by show 1 ≤ 900; decide, q _ dx h1 h2 (fun b n1 n2 => by rw [upd_ne n2, upd_ne n1, upd_ne n2]) (by rw [upd_ne (Ne.symm h2), upd_same]) (by rw [upd_same]; rfl)⟩⟩⟩⟩
      ·
        rcases hp x1 (by simp) with ⟨i1, rfl, h1⟩ | ⟨y1, rfl, h1⟩
        ·
          refine ⟨_, rfl, ?_, ⟨_, rfl, .inr ⟨i1, rfl, h1, _, rfl, ?_, ⟨_, rfl, ?_, ⟨_, rfl, .inl ⟨y0, rfl, str_le (Nat.le_trans h0 (by decide)), _, rfl, ?_, ?_⟩⟩⟩⟩⟩⟩
          · exact Nat.le_trans (cat_le (k := 200) (show (Str.empty).length ≤ 0 from Nat.le_refl _) (show Str.length _ ≤ 200 by decide) (by decide)) (by decide)
          · exact Nat.le_trans (cat_le (k := 2121) (cat_le (k := 200) (show (Str.empty).length ≤ 0 from Nat.le_refl _) (show Str.length _ ≤ 200 by decide) (by decide)) (int_le h1) (by decide)) (by decide)
          · exact Nat.le_trans (cat_le (k := 2321) (cat_le (k := 2121) (cat_le (k := 200) (show (Str.empty).length ≤ 0 from Nat.le_refl _) (show Str.length _ ≤ 200 by decide) (by decide)) (int_le h1) (by decide)) (show Str.length _ ≤ 200 by decide) (by decide)) (by decide)
          · exact Nat.le_trans (cat_le (k := 4242) (cat_le (k := 2321) (cat_le (k := 2121) (cat_le (k := 200) (show (Str.empty).length ≤ 0 from Nat.le_refl _) (show Str.length _ ≤ 200 by decide) (by decide)) (int_le h1) (by decide)) (show Str.length _ ≤ 200 by decide) (by decide)) h0 (by decide)) (by decide)
          · exact ⟨by show 1 ≤ 1000; decide, ha, _, rfl, _, rfl, a, C, rfl, F.U.T, hno0, .inl ⟨ha, fun dx h1 h2 => ⟨_, rfl, _, rfl, a, C, rfl, F.U.T, hno1, .inr ⟨dx, _, upd_same, (upd_ne h2).trans upd_same, by show 1 ≤ 900; decide, q _ dx h1 h2 (fun b n1 n2 => by rw [upd_ne n2, upd_ne n1, upd_ne n2]) (by rw [upd_ne (Ne.symm h2), upd_same]) (by rw [upd_same]; rfl)⟩⟩⟩⟩
        ·
          refine ⟨_, rfl, ?_, ⟨_, rfl, .inl ⟨y1, rfl, str_le (Nat.le_trans h1 (by decide)), _, rfl, ?_, ⟨_, rfl, ?_, ⟨_, rfl, .inl ⟨y0, rfl, str_le (Nat.le_trans h0 (by decide)), _, rfl, ?_, ?_⟩⟩⟩⟩⟩⟩
          · exact Nat.le_trans (cat_le (k := 200) (show (Str.empty).length ≤ 0 from Nat.le_refl _) (show Str.length _ ≤ 200 by decide) (by decide)) (by decide)
          · exact Nat.le_trans (cat_le (k := 2121) (cat_le (k := 200) (show (Str.empty).length ≤ 0 from Nat.le_refl _) (show Str.length _ ≤ 200 by decide) (by decide)) h1 (by decide)) (by decide)
          · exact Nat.le_trans (cat_le (k := 2321) (cat_le (k := 2121) (cat_le (k := 200) (show (Str.empty).length ≤ 0 from Nat.le_refl _) (show Str.length _ ≤ 200 by decide) (by decide)) h1 (by decide)) (show Str.length _ ≤ 200 by decide) (by decide)) (by decide)
          · exact Nat.le_trans (cat_le (k := 4242) (cat_le (k := 2321) (cat_le (k := 2121) (cat_le (k := 200) (show (Str.empty).length ≤ 0 from Nat.le_refl _) (show Str.length _ ≤ 200 by decide) (by decide)) h1 (by decide)) (show Str.length _ ≤ 200 by decide) (by decide)) h0 (by decide)) (by decide)
          · exact ⟨by show 1 ≤ 1000; decide, ha, _, rfl, _, rfl, a, C, rfl, F.U.T, hno0, .inl ⟨ha, fun dx h1 h2 => ⟨_, rfl, _, rfl, a, C, rfl, F.U.T, hno1, .inr ⟨dx, _, upd_same, (upd_ne h2).trans upd_same, by show 1 ≤ 900; decide, q _ dx h1 h2 (fun b n1 n2 => by rw [upd_ne n2, upd_ne n1, upd_ne n2]) (by rw [upd_ne (Ne.symm h2), upd_same]) (by rw [upd_same]; rfl)⟩⟩⟩⟩
theorem scTooManyI : NdefX.NScope ["self", "limit", "__class__"] ["self", "limit"] ["__class__"] (defScope sTooManyI) := NdefX.nscope_by (by decide +kernel)
theorem ok_TooManyI {f C : Addr} {fd : FuncData} (F : ErT P K mg C "TooMany.__init__" sTooManyI f fd) (hno0 : PySem.W.findIn K (.ref C) "limit" = some none) : FnOk P w K mg base CX0 1 f fd ["self", "limit"] (spEr C ["limit"]) := by
  obtain ⟨oc, ccl, cl, od, cdd, cld, an, osl, ccs, csl, cda, cc, kV, doc, pm, ct, vs0, file, tf, rfl, lk, hcd, hcode, hvs, hfile, hcell⟩ := F.ex
  refine SupX.fn_sup F.U lk hcd hcode hvs hfile hcell scTooManyI rfl rfl rfl (fun env => ⟨_, rfl⟩) (fun env => rfl) (fun env => rfl) (fun vs H Q E h => ?_) (fun A outer s H vs Q E hr h => ?_)
  · obtain ⟨a, xs, rfl, hl, _⟩ := h
    show xs.length + 1 = _
    rw [hl]
    rfl
  · obtain ⟨a, xs, rfl, hl, hp, ha, q⟩ := h
    match xs, hl with
    | [x0], _ =>
      refine ⟨a, _, _, rfl, ha, pa_cons (pe_joined (.cons pe_str (.cons (pe_fmt (pv 1)) .nil))) pa_nil, (pss_one (ps_ost (pv 0) (pv 1))), ?_⟩
      rcases hp x0 (by simp) with ⟨i0, rfl, h0⟩ | ⟨y0, rfl, h0⟩
      ·
        refine ⟨_, rfl, ?_, ⟨_, rfl, .inr ⟨i0, rfl, h0, _, rfl, ?_, ?_⟩⟩⟩
        · exact Nat.le_trans (cat_le (k := 200) (show (Str.empty).length ≤ 0 from Nat.le_refl _) (show Str.length _ ≤ 200 by decide) (by decide)) (by decide)
        · exact Nat.le_trans (cat_le (k := 2121) (cat_le (k := 200) (show (Str.empty).length ≤ 0 from Nat.le_refl _) (show Str.length _ ≤ 200 by decide) (by decide)) (int_le h0) (by decide)) (by decide)
        · exact ⟨by show 1 ≤ 1000; decide, ha, _, rfl, _, rfl, a, C, rfl, F.U.T, hno0, .inl ⟨ha, fun dx h1 h2 => q _ dx h1 h2 (fun b n1 n2 => by rw [upd_ne n1, upd_ne n2]) upd_same (by rw [upd_ne h2, upd_same]; rfl)⟩⟩
      ·
        refine ⟨_, rfl, ?_, ⟨_, rfl, .inl ⟨y0, rfl, str_le (Nat.le_trans h0 (by decide)), _, rfl, ?_, ?_⟩⟩⟩
        · exact Nat.le_trans (cat_le (k := 200) (show (Str.empty).length ≤ 0 from Nat.le_refl _) (show Str.length _ ≤ 200 by decide) (by decide)) (by decide)
        · exact Nat.le_trans (cat_le (k := 2121) (cat_le (k := 200) (show (Str.empty).length ≤ 0 from Nat.le_refl _) (show Str.length _ ≤ 200 by decide) (by decide)) h0 (by decide)) (by decide)
        · exact ⟨by show 1 ≤ 1000; decide, ha, _, rfl, _, rfl, a, C, rfl, F.U.T, hno0, .inl ⟨ha, fun dx h1 h2 => q _ dx h1 h2 (fun b n1 n2 => by rw [upd_ne n1, upd_ne n2]) upd_same (by rw [upd_ne h2, upd_same]; rfl)⟩⟩
theorem scBadPatternI : NdefX.NScope ["self", "place", "__class__"] ["self", "place"] ["__class__"] (defScope sBadPatternI) := NdefX.nscope_by (by decide +kernel)
theorem ok_BadPatternI {f C : Addr} {fd : FuncData} (F : ErT P K mg C "BadPattern.__init__" sBadPatternI f fd) (hno0 : PySem.W.findIn K (.ref C) "place" = some none) : FnOk P w K mg base CX0 1 f fd ["self", "place"] (spEr C ["place"]) := by
  obtain ⟨oc, ccl, cl, od, cdd, cld, an, osl, ccs, csl, cda, cc, kV, doc, pm, ct, vs0, file, tf, rfl, lk, hcd, hcode, hvs, hfile, hcell⟩ := F.ex
  refine SupX.fn_sup F.U lk hcd hcode hvs hfile hcell scBadPatternI rfl rfl rfl (fun env => ⟨_, rfl⟩) (fun env => rfl) (fun env => rfl) (fun vs H Q E h => ?_) (fun A outer s H vs Q E hr h => ?_)
  · obtain ⟨a, xs, rfl, hl, _⟩ := h
    show xs.length + 1 = _
    rw [hl]
    rfl
  · obtain ⟨a, xs, rfl, hl, hp, ha, q⟩ := h
    match xs, hl with
    | [x0], _ =>
      refine ⟨a, _, _, rfl, ha, pa_cons (pe_joined (.cons pe_str (.cons (pe_fmt (pv 1)) .nil))) pa_nil, (pss_one (ps_ost (pv 0) (pv 1))), ?_⟩
      rcases hp x0 (by simp) with ⟨i0, rfl, h0⟩ | ⟨y0, rfl, h0⟩
      ·
        refine ⟨_, rfl, ?_, ⟨_, rfl, .inr ⟨i0, rfl, h0, _, rfl, ?_, ?_⟩⟩⟩
        · exact Nat.le_trans (cat_le (k := 200) (show (Str.empty).length ≤ 0 from Nat.le_refl _) (show Str.length _ ≤ 200 by decide) (by decide)) (by decide)
        · exact Nat.le_trans (cat_le (k := 2121) (cat_le (k := 200) (show (Str.empty).length ≤ 0 from Nat.le_refl _) (show Str.length _ ≤ 200 by decide) (by decide)) (int_le h0) (by decide)) (by decide)
        · exact ⟨by show 1 ≤ 1000; decide, ha, _, rfl, _, rfl, a, C, rfl, F.U.T, hno0, .inl ⟨ha, fun dx h1 h2 => q _ dx h1 h2 (fun b n1 n2 => by rw [upd_ne n1, upd_ne n2]) upd_same (by rw [upd_ne h2, upd_same]; rfl)⟩⟩
      ·
        refine ⟨_, rfl, ?_, ⟨_, rfl, .inl ⟨y0, rfl, str_le (Nat.le_trans h0 (by decide)), _, rfl, ?_, ?_⟩⟩⟩
        · exact Nat.le_trans (cat_le (k := 200) (show (Str.empty).length ≤ 0 from Nat.le_refl _) (show Str.length _ ≤ 200 by decide) (by decide)) (by decide)
        · exact Nat.le_trans (cat_le (k := 2121) (cat_le (k := 200) (show (Str.empty).length ≤ 0 from Nat.le_refl _) (show Str.length _ ≤ 200 by decide) (by decide)) h0 (by decide)) (by decide)
        · exact ⟨by show 1 ≤ 1000; decide, ha, _, rfl, _, rfl, a, C, rfl, F.U.T, hno0, .inl ⟨ha, fun dx h1 h2 => q _ dx h1 h2 (fun b n1 n2 => by rw [upd_ne n1, upd_ne n2]) upd_same (by rw [upd_ne h2, upd_same]; rfl)⟩⟩
theorem scSameWordI : NdefX.NScope ["self", "word", "__class__"] ["self", "word"] ["__class__"] (defScope sSameWordI) := NdefX.nscope_by (by decide +kernel)
theorem ok_SameWordI {f C : Addr} {fd : FuncData} (F : ErT P K mg C "SameWord.__init__" sSameWordI f fd) (hno0 : PySem.W.findIn K (.ref C) "word" = some none) : FnOk P w K mg base CX0 1 f fd ["self", "word"] (spEr C ["word"]) := by
  obtain ⟨oc, ccl, cl, od, cdd, cld, an, osl, ccs, csl, cda, cc, kV, doc, pm, ct, vs0, file, tf, rfl, lk, hcd, hcode, hvs, hfile, hcell⟩ := F.ex
  refine SupX.fn_sup F.U lk hcd hcode hvs hfile hcell scSameWordI rfl rfl rfl (fun env => ⟨_, rfl⟩) (fun env => rfl) (fun env => rfl) (fun vs H Q E h => ?_) (fun A outer s H vs Q E hr h => ?_)
  · obtain ⟨a, xs, rfl, hl, _⟩ := h
    show xs.length + 1 = _
    rw [hl]
    rfl
  · obtain ⟨a, xs, rfl, hl, hp, ha, q⟩ := h
    match xs, hl with
    | [x0], _ =>
      refine ⟨a, _, _, rfl, ha, pa_cons (pe_joined (.cons pe_str (.cons (pe_fmt (pv 1)) .nil))) pa_nil, (pss_one (ps_ost (pv 0) (pv 1))), ?_⟩
      rcases hp x0 (by simp) with ⟨i0, rfl, h0⟩ | ⟨y0, rfl, h0⟩
      ·
        refine ⟨_, rfl, ?_, ⟨_, rfl, .inr ⟨i0, rfl, h0, _, rfl, ?_, ?_⟩⟩⟩
        · exact Nat.le_trans (cat_le (k := 200) (show (Str.empty).length ≤ 0 from Nat.le_refl _) (show Str.length _ ≤ 200 by decide) (by decide)) (by decide)
        · exact Nat.le_trans (cat_le (k := 2121) (cat_le (k := 200) (show (Str.empty).length ≤ 0 from Nat.le_refl _) (show Str.length _ ≤ 200 by decide) (by decide)) (int_le h0) (by decide)) (by decide)
        · exact ⟨by show 1 ≤ 1000; decide, ha, _, rfl, _, rfl, a, C, rfl, F.U.T, hno0, .inl ⟨ha, fun dx h1 h2 => q _ dx h1 h2 (fun b n1 n2 => by rw [upd_ne n1, upd_ne n2]) upd_same (by rw [upd_ne h2, upd_same]; rfl)⟩⟩
      ·
        refine ⟨_, rfl, ?_, ⟨_, rfl, .inl ⟨y0, rfl, str_le (Nat.le_trans h0 (by decide)), _, rfl, ?_, ?_⟩⟩⟩
        · exact Nat.le_trans (cat_le (k := 200) (show (Str.empty).length ≤ 0 from Nat.le_refl _) (show Str.length _ ≤ 200 by decide) (by decide)) (by decide)
        · exact Nat.le_trans (cat_le (k := 2121) (cat_le (k := 200) (show (Str.empty).length ≤ 0 from Nat.le_refl _) (show Str.length _ ≤ 200 by decide) (by decide)) h0 (by decide)) (by decide)
        · exact ⟨by show 1 ≤ 1000; decide, ha, _, rfl, _, rfl, a, C, rfl, F.U.T, hno0, .inl ⟨ha, fun dx h1 h2 => q _ dx h1 h2 (fun b n1 n2 => by rw [upd_ne n1, upd_ne n2]) upd_same (by rw [upd_ne h2, upd_same]; rfl)⟩⟩
theorem scUnknownClueI : NdefX.NScope ["self", "number", "__class__"] ["self", "number"] ["__class__"] (defScope sUnknownClueI) := NdefX.nscope_by (by decide +kernel)
theorem ok_UnknownClueI {f C : Addr} {fd : FuncData} (F : ErT P K mg C "UnknownClue.__init__" sUnknownClueI f fd) (hno0 : PySem.W.findIn K (.ref C) "number" = some none) : FnOk P w K mg base CX0 1 f fd ["self", "number"] (spEr C ["number"]) := by
  obtain ⟨oc, ccl, cl, od, cdd, cld, an, osl, ccs, csl, cda, cc, kV, doc, pm, ct, vs0, file, tf, rfl, lk, hcd, hcode, hvs, hfile, hcell⟩ := F.ex
  refine SupX.fn_sup F.U lk hcd hcode hvs hfile hcell scUnknownClueI rfl rfl rfl (fun env => ⟨_, rfl⟩) (fun env => rfl) (fun env => rfl) (fun vs H Q E h => ?_) (fun A outer s H vs Q E hr h => ?_)
  · obtain ⟨a, xs, rfl, hl, _⟩ := h
    show xs.length + 1 = _
    rw [hl]
    rfl
  · obtain ⟨a, xs, rfl, hl, hp, ha, q⟩ := h
    match xs, hl with
    | [x0], _ =>
      refine ⟨a, _, _, rfl, ha, pa_cons (pe_joined (.cons pe_str (.cons (pe_fmt (pv 1)) (.cons pe_str .nil)))) pa_nil, (pss_one (ps_ost (pv 0) (pv 1))), ?_⟩
      rcases hp x0 (by simp) with ⟨i0, rfl, h0⟩ | ⟨y0, rfl, h0⟩
      ·
        refine ⟨_, rfl, ?_, ⟨_, rfl, .inr ⟨i0, rfl, h0, _, rfl, ?_, ⟨_, rfl, ?_, ?_⟩⟩⟩⟩
        · exact Nat.le_trans (cat_le (k := 200) (show (Str.empty).length ≤ 0 from Nat.le_refl _) (show Str.length _ ≤ 200 by decide) (by decide)) (by decide)
        · exact Nat.le_trans (cat_le (k := 2121) (cat_le (k := 200) (show (Str.empty).length ≤ 0 from Nat.le_refl _) (show Str.length _ ≤ 200 by decide) (by decide)) (int_le h0) (by decide)) (by decide)
        · exact Nat.le_trans (cat_le (k := 2321) (cat_le (k := 2121) (cat_le (k := 200) (show (Str.empty).length ≤ 0 from Nat.le_refl _) (show Str.length _ ≤ 200 by decide) (by decide)) (int_le h0) (by decide)) (show Str.length _ ≤ 200 by decide) (by decide)) (by decide)
        · exact ⟨by show 1 ≤ 1000; decide, ha, _, rfl, _, rfl, a, C, rfl, F.U.T, hno0, .inl ⟨ha, fun dx h1 h2 => q _ dx h1 h2 (fun b n1 n2 => by rw [upd_ne n1, upd_ne n2]) upd_same (by rw [upd_ne h2, upd_same]; rfl)⟩⟩
      ·
        refine ⟨_, rfl, ?_, ⟨_, rfl, .inl ⟨y0, rfl, str_le (Nat.le_trans h0 (by decide)), _, rfl, ?_, ⟨_, rfl, ?_, ?_⟩⟩⟩⟩
        · exact Nat.le_trans (cat_le (k := 200) (show (Str.empty).length ≤ 0 from Nat.le_refl _) (show Str.length _ ≤ 200 by decide) (by decide)) (by decide)
        · exact Nat.le_trans (cat_le (k := 2121) (cat_le (k := 200) (show (Str.empty).length ≤ 0 from Nat.le_refl _) (show Str.length _ ≤ 200 by decide) (by decide)) h0 (by decide)) (by decide)
        · exact Nat.le_trans (cat_le (k := 2321) (cat_le (k := 2121) (cat_le (k := 200) (show (Str.empty).length ≤ 0 from Nat.le_refl _) (show Str.length _ ≤ 200 by decide) (by decide)) h0 (by decide)) (show Str.length _ ≤ 200 by decide) (by decide)) (by decide)
        · exact ⟨by show 1 ≤ 1000; decide, ha, _, rfl, _, rfl, a, C, rfl, F.U.T, hno0, .inl ⟨ha, fun dx h1 h2 => q _ dx h1 h2 (fun b n1 n2 => by rw [upd_ne n1, upd_ne n2]) upd_same (by rw [upd_ne h2, upd_same]; rfl)⟩⟩
theorem scBadPlaceI : NdefX.NScope ["self", "place", "__class__"] ["self", "place"] ["__class__"] (defScope sBadPlaceI) := NdefX.nscope_by (by decide +kernel)
theorem ok_BadPlaceI {f C : Addr} {fd : FuncData} (F : ErT P K mg C "BadPlace.__init__" sBadPlaceI f fd) (hno0 : PySem.W.findIn K (.ref C) "place" = some none) : FnOk P w K mg base CX0 1 f fd ["self", "place"] (spEr C ["place"]) := by
  obtain ⟨oc, ccl, cl, od, cdd, cld, an, osl, ccs, csl, cda, cc, kV, doc, pm, ct, vs0, file, tf, rfl, lk, hcd, hcode, hvs, hfile, hcell⟩ := F.ex
  refine SupX.fn_sup F.U lk hcd hcode hvs hfile hcell scBadPlaceI rfl rfl rfl (fun env => ⟨_, rfl⟩) (fun env => rfl) (fun env => rfl) (fun vs H Q E h => ?_) (fun A outer s H vs Q E hr h => ?_)
  · obtain ⟨a, xs, rfl, hl, _⟩ := h
    show xs.length + 1 = _
    rw [hl]
    rfl
  · obtain ⟨a, xs, rfl, hl, hp, ha, q⟩ := h
    match xs, hl with
    | [x0], _ =>
      refine ⟨a, _, _, rfl, ha, pa_cons (pe_joined (.cons pe_str (.cons (pe_fmt (pv 1)) .nil))) pa_nil, (pss_one (ps_ost (pv 0) (pv 1))), ?_⟩
      rcases hp x0 (by simp) with ⟨i0, rfl, h0⟩ | ⟨y0, rfl, h0⟩
      ·
        refine ⟨_, rfl, ?_, ⟨_, rfl, .inr ⟨i0, rfl, h0, _, rfl, ?_, ?_⟩⟩⟩
        · exact Nat.le_trans (cat_le (k := 200) (show (Str.empty).length ≤ 0 from Nat.le_refl _) (show Str.length _ ≤ 200 by decide) (by decide)) (by decide)
        · exact Nat.le_trans (cat_le (k := 2121) (cat_le (k := 200) (show (Str.empty).length ≤ 0 from Nat.le_refl _) (show Str.length _ ≤ 200 by decide) (by decide)) (int_le h0) (by decide)) (by decide)
        · exact ⟨by show 1 ≤ 1000; decide, ha, _, rfl, _, rfl, a, C, rfl, F.U.T, hno0, .inl ⟨ha, fun dx h1 h2 => q _ dx h1 h2 (fun b n1 n2 => by rw [upd_ne n1, upd_ne n2]) upd_same (by rw [upd_ne h2, upd_same]; rfl)⟩⟩
      ·
        refine ⟨_, rfl, ?_, ⟨_, rfl, .inl ⟨y0, rfl, str_le (Nat.le_trans h0 (by decide)), _, rfl, ?_, ?_⟩⟩⟩
        · exact Nat.le_trans (cat_le (k := 200) (show (Str.empty).length ≤ 0 from Nat.le_refl _) (show Str.length _ ≤ 200 by decide) (by decide)) (by decide)
        · exact Nat.le_trans (cat_le (k := 2121) (cat_le (k := 200) (show (Str.empty).length ≤ 0 from Nat.le_refl _) (show Str.length _ ≤ 200 by decide) (by decide)) h0 (by decide)) (by decide)
        · exact ⟨by show 1 ≤ 1000; decide, ha, _, rfl, _, rfl, a, C, rfl, F.U.T, hno0, .inl ⟨ha, fun dx h1 h2 => q _ dx h1 h2 (fun b n1 n2 => by rw [upd_ne n1, upd_ne n2]) upd_same (by rw [upd_ne h2, upd_same]; rfl)⟩⟩
theorem scTooLongI : NdefX.NScope ["self", "limit", "__class__"] ["self", "limit"] ["__class__"] (defScope sTooLongI) := NdefX.nscope_by (by decide +kernel)
theorem ok_TooLongI {f C : Addr} {fd : FuncData} (F : ErT P K mg C "TooLong.__init__" sTooLongI f fd) (hno0 : PySem.W.findIn K (.ref C) "limit" = some none) : FnOk P w K mg base CX0 1 f fd ["self", "limit"] (spEr C ["limit"]) := by
  obtain ⟨oc, ccl, cl, od, cdd, cld, an, osl, ccs, csl, cda, cc, kV, doc, pm, ct, vs0, file, tf, rfl, lk, hcd, hcode, hvs, hfile, hcell⟩ := F.ex
  refine SupX.fn_sup F.U lk hcd hcode hvs hfile hcell scTooLongI rfl rfl rfl (fun env => ⟨_, rfl⟩) (fun env => rfl) (fun env => rfl) (fun vs H Q E h => ?_) (fun A outer s H vs Q E hr h => ?_)
  · obtain ⟨a, xs, rfl, hl, _⟩ := h
    show xs.length + 1 = _
    rw [hl]
    rfl
  · obtain ⟨a, xs, rfl, hl, hp, ha, q⟩ := h
    match xs, hl with
    | [x0], _ =>
      refine ⟨a, _, _, rfl, ha, pa_cons (pe_joined (.cons pe_str (.cons (pe_fmt (pv 1)) (.cons pe_str .nil)))) pa_nil, (pss_one (ps_ost (pv 0) (pv 1))), ?_⟩
      rcases hp x0 (by simp) with ⟨i0, rfl, h0⟩ | ⟨y0, rfl, h0⟩
      ·
        refine ⟨_, rfl, ?_, ⟨_, rfl, .inr ⟨i0, rfl, h0, _, rfl, ?_, ⟨_, rfl, ?_, ?_⟩⟩⟩⟩
        · exact Nat.le_trans (cat_le (k := 200) (show (Str.empty).length ≤ 0 from Nat.le_refl _) (show Str.length _ ≤ 200 by decide) (by decide)) (by decide)
        · exact Nat.le_trans (cat_le (k := 2121) (cat_le (k := 200) (show (Str.empty).length ≤ 0 from Nat.le_refl _) (show Str.length _ ≤ 200 by decide) (by decide)) (int_le h0) (by decide)) (by decide)
        · exact Nat.le_trans (cat_le (k := 2321) (cat_le (k := 2121) (cat_le (k := 200) (show (Str.empty).length ≤ 0 from Nat.le_refl _) (show Str.length _ ≤ 200 by decide) (by decide)) (int_le h0) (by decide)) (show Str.length _ ≤ 200 by decide) (by decide)) (by decide)
        · exact ⟨by show 1 ≤ 1000; decide, ha, _, rfl, _, rfl, a, C, rfl, F.U.T, hno0, .inl ⟨ha, fun dx h1 h2 => q _ dx h1 h2 (fun b n1 n2 => by rw [upd_ne n1, upd_ne n2]) upd_same (by rw [upd_ne h2, upd_same]; rfl)⟩⟩
      ·
        refine ⟨_, rfl, ?_, ⟨_, rfl, .inl ⟨y0, rfl, str_le (Nat.le_trans h0 (by decide)), _, rfl, ?_, ⟨_, rfl, ?_, ?_⟩⟩⟩⟩
        · exact Nat.le_trans (cat_le (k := 200) (show (Str.empty).length ≤ 0 from Nat.le_refl _) (show Str.length _ ≤ 200 by decide) (by decide)) (by decide)
        · exact Nat.le_trans (cat_le (k := 2121) (cat_le (k := 200) (show (Str.empty).length ≤ 0 from Nat.le_refl _) (show Str.length _ ≤ 200 by decide) (by decide)) h0 (by decide)) (by decide)
        · exact Nat.le_trans (cat_le (k := 2321) (cat_le (k := 2121) (cat_le (k := 200) (show (Str.empty).length ≤ 0 from Nat.le_refl _) (show Str.length _ ≤ 200 by decide) (by decide)) h0 (by decide)) (show Str.length _ ≤ 200 by decide) (by decide)) (by decide)
        · exact ⟨by show 1 ≤ 1000; decide, ha, _, rfl, _, rfl, a, C, rfl, F.U.T, hno0, .inl ⟨ha, fun dx h1 h2 => q _ dx h1 h2 (fun b n1 n2 => by rw [upd_ne n1, upd_ne n2]) upd_same (by rw [upd_ne h2, upd_same]; rfl)⟩⟩
theorem scMeltedI : NdefX.NScope ["self", "first", "second", "__class__"] ["self", "first", "second"] ["__class__"] (defScope sMeltedI) := NdefX.nscope_by (by decide +kernel)
theorem ok_MeltedI {f C : Addr} {fd : FuncData} (F : ErT P K mg C "Melted.__init__" sMeltedI f fd) (hno0 : PySem.W.findIn K (.ref C) "first" = some none) (hno1 : PySem.W.findIn K (.ref C) "second" = some none) : FnOk P w K mg base CX0 1 f fd ["self", "first", "second"] (spEr C ["first", "second"]) := by
  obtain ⟨oc, ccl, cl, od, cdd, cld, an, osl, ccs, csl, cda, cc, kV, doc, pm, ct, vs0, file, tf, rfl, lk, hcd, hcode, hvs, hfile, hcell⟩ := F.ex
  refine SupX.fn_sup F.U lk hcd hcode hvs hfile hcell scMeltedI rfl rfl rfl (fun env => ⟨_, rfl⟩) (fun env => rfl) (fun env => rfl) (fun vs H Q E h => ?_) (fun A outer s H vs Q E hr h => ?_)
  · obtain ⟨a, xs, rfl, hl, _⟩ := h
    show xs.length + 1 = _
    rw [hl]
    rfl
  · obtain ⟨a, xs, rfl, hl, hp, ha, q⟩ := h
    match xs, hl with
    | [x0, x1], _ =>
      refine ⟨a, _, _, rfl, ha, pa_cons (pe_joined (.cons pe_str (.cons (pe_fmt (pv 1)) (.cons pe_str (.cons (pe_fmt (pv 2)) (.cons pe_str .nil)))))) pa_nil, (pss_cons (ps_ost (pv 0) (pv 1)) (pss_one (ps_ost (pv 0) (pv 2)))), ?_⟩
      rcases hp x0 (by simp) with ⟨i0, rfl, h0⟩ | ⟨y0, rfl, h0⟩
      ·
        rcases hp x1 (by simp) with ⟨i1, rfl, h1⟩ | ⟨y1, rfl, h1⟩
        ·
          refine ⟨_, rfl, ?_, ⟨_, rfl, .inr ⟨i0, rfl, h0, _, rfl, ?_, ⟨_, rfl, ?_, ⟨_, rfl, .inr ⟨i1, rfl, h1, _, rfl, ?_, ⟨_, rfl, ?_, ?_⟩⟩⟩⟩⟩⟩⟩
          · exact Nat.le_trans (cat_le (k := 200) (show (Str.empty).length ≤ 0 from Nat.le_refl _) (show Str.length _ ≤ 200 by decide) (by decide)) (by decide)
          · exact Nat.le_trans (cat_le (k := 2121) (cat_le (k := 200) (show (Str.empty).length ≤ 0 from Nat.le_refl _) (show Str.length _ ≤ 200 by decide) (by decide)) (int_le h0) (by decide)) (by decide)
          · exact Nat.le_trans (cat_le (k := 2321) (cat_le (k := 2121) (cat_le (k := 200) (show (Str.empty).length ≤ 0 from Nat.le_refl _) (show Str.length _ ≤ 200 by decide) (by decide)) (int_le h0) (by decide)) (show Str.length _ ≤ 200 by decide) (by decide)) (by decide)
          · exact Nat.le_trans (cat_le (k := 4242) (cat_le (k := 2321) (cat_le (k := 2121) (cat_le (k := 200) (show (Str.empty).length ≤ 0 from Nat.le_refl _) (show Str.length _ ≤ 200 by decide) (by decide)) (int_le h0) (by decide)) (show Str.length _ ≤ 200 by decide) (by decide)) (int_le h1) (by decide)) (by decide)
          · exact Nat.le_trans (cat_le (k := 4442) (cat_le (k := 4242) (cat_le (k := 2321) (cat_le (k := 2121) (cat_le (k := 200) (show (Str.empty).length ≤ 0 from Nat.le_refl _) (show Str.length _ ≤ 200 by decide) (by decide)) (int_le h0) (by decide)) (show Str.length _ ≤ 200 by decide) (by decide)) (int_le h1) (by decide)) (show Str.length _ ≤ 200 by decide) (by decide)) (by decide)
          · exact ⟨by show 1 ≤ 1000; decide, ha, _, rfl, _, rfl, a, C, rfl, F.U.T, hno0, .inl ⟨ha, fun dx h1 h2 => ⟨_, rfl, _, rfl, a, C, rfl, F.U.T, hno1, .inr ⟨dx, _, upd_same, (upd_ne h2).trans upd_same, by show 1 ≤ 900; decide, q _ dx h1 h2 (fun b n1 n2 => by rw [upd_ne n2, upd_ne n1, upd_ne n2]) (by rw [upd_ne (Ne.symm h2), upd_same]) (by rw [upd_same]; rfl)⟩⟩⟩⟩
        ·
          refine ⟨_, rfl, ?_, ⟨_, rfl, .inr ⟨i0, rfl, h0, _, rfl, ?_, ⟨_, rfl, ?_, ⟨_, rfl, .inl ⟨y1, rfl, str_le (Nat.le_trans h1 (by decide)), _, rfl, ?_, ⟨_, rfl, ?_, ?_⟩⟩⟩⟩⟩⟩⟩
          · exact Nat.le_trans (cat_le (k := 200) (show (Str.empty).length ≤ 0 from Nat.le_refl _) (show Str.length _ ≤ 200 by decide) (by decide)) (by decide)
          · exact Nat.le_trans (cat_le (k := 2121) (cat_le (k := 200) (show (Str.empty).length ≤ 0 from Nat.le_refl _) (show Str.length _ ≤ 200 by decide) (by decide)) (int_le h0) (by decide)) (by decide)
          · exact Nat.le_trans (cat_le (k := 2321) (cat_le (k := 2121) (cat_le (k := 200) (show (Str.empty).length ≤ 0 from Nat.le_refl _) (show Str.length _ ≤ 200 by decide) (by decide)) (int_le h0) (by decide)) (show Str.length _ ≤ 200 by decide) (by decide)) (by decide)
          · exact Nat.le_trans (cat_le (k := 4242) (cat_le (k := 2321) (cat_le (k := 2121) (cat_le (k := 200) (show (Str.empty).length ≤ 0 from Nat.le_refl _) (show Str.length _ ≤ 200 by decide) (by decide)) (int_le h0) (by decide)) (show Str.length _ ≤ 200 by decide) (by decide)) h1 (by decide)) (by decide)
          · exact Nat.le_trans (cat_le (k := 4442) (cat_le (k := 4242) (cat_le (k := 2321) (cat_le (k := 2121) (cat_le (k := 200) (show (Str.empty).length ≤ 0 from Nat.le_refl _) (show Str.length _ ≤ 200 by decide) (by decide)) (int_le h0) (by decide)) (show Str.length _ ≤ 200 by decide) (by decide)) h1 (by decide)) (show Str.length _ ≤ 200 by decide) (by decide)) (by decide)
          · exact ⟨by show 1 ≤ 1000; decide, ha, _, rfl, _, rfl, a, C, rfl, F.U.T, hno0, .inl ⟨ha, fun dx h1 h2 => ⟨_, rfl, _, rfl, a, C, rfl, F.U.T, hno1, .inr ⟨dx, _, upd_same, (upd_ne h2).trans upd_same, by show 1 ≤ 900; decide, q _ dx h1 h2 (fun b n1 n2 => by rw [upd_ne n2, upd_ne n1, upd_ne n2]) (by rw [upd_ne (Ne.symm h2), upd_same]) (by rw [upd_same]; rfl)⟩⟩⟩⟩
      ·
        rcases hp x1 (by simp) with ⟨i1, rfl, h1⟩ | ⟨y1, rfl, h1⟩
        ·
          refine ⟨_, rfl, ?_, ⟨_, rfl, .inl ⟨y0, rfl, str_le (Nat.le_trans h0 (by decide)), _, rfl, ?_, ⟨_, rfl, ?_, ⟨_, rfl, .inr ⟨i1, rfl, h1, _, rfl, ?_, ⟨_, rfl, ?_, ?_⟩⟩⟩⟩⟩⟩⟩
          · exact Nat.le_trans (cat_le (k := 200) (show (Str.empty).length ≤ 0 from Nat.le_refl _) (show Str.length _ ≤ 200 by decide) (by decide)) (by decide)
          · exact Nat.le_trans (cat_le (k := 2121) (cat_le (k := 200) (show (Str.empty).length ≤ 0 from Nat.le_refl _) (show Str.length _ ≤ 200 by decide) (by decide)) h0 (by decide)) (by decide)
          · exact Nat.le_trans (cat_le (k := 2321) (cat_le (k := 2121) (cat_le (k := 200) (show (Str.empty).length ≤ 0 from Nat.le_refl _) (show Str.length _ ≤ 200 by decide) (by decide)) h0 (by decide)) (show Str.length _ ≤ 200 by decide) (by decide)) (by decide)
          · exact Nat.le_trans (cat_le (k := 4242) (cat_le (k := 2321) (cat_le (k := 2121) (cat_le (k := 200) (show (Str.empty).length ≤ 0 from Nat.le_refl _) (show Str.length _ ≤ 200 by decide) (by decide)) h0 (by decide)) (show Str.length _ ≤ 200 by decide) (by decide)) (int_le h1) (by decide)) (by decide)
          · exact Nat.le_trans (cat_le (k := 4442) (cat_le (k := 4242) (cat_le (k := 2321) (cat_le (k := 2121) (cat_le (k := 200) (show (Str.empty).length ≤ 0 from Nat.le_refl _) (show Str.length _ ≤ 200 by decide) (by decide)) h0 (by decide)) (show Str.length _ ≤ 200 by decide) (by decide)) (int_le h1) (by decide)) (show Str.length _ ≤ 200 by decide) (by decide)) (by decide)
          · exact ⟨by show 1 ≤ 1000; decide, ha, _, rfl, _, rfl, a, C, rfl, F.U.T, hno0, .inl ⟨ha, fun dx h1 h2 => ⟨_, rfl, _, rfl, a, C, rfl, F.U.T, hno1, .inr ⟨dx, _, upd_same, (upd_ne h2).trans upd_same, by show 1 ≤ 900; decide, q _ dx h1 h2 (fun b n1 n2 => by rw [upd_ne n2, upd_ne n1, upd_ne n2]) (by rw [upd_ne (Ne.symm h2), upd_same]) (by rw [upd_same]; rfl)⟩⟩⟩⟩
        ·
          refine ⟨_, rfl, ?_, ⟨_, rfl, .inl ⟨y0, rfl, str_le (Nat.le_trans h0 (by decide)), _, rfl, ?_, ⟨_, rfl, ?_, ⟨_, rfl, .inl ⟨y1, rfl, str_le (Nat.le_trans h1 (by decide)), _, rfl, ?_, ⟨_, rfl, ?_, ?_⟩⟩⟩⟩⟩⟩⟩
          · exact Nat.le_trans (cat_le (k := 200) (show (Str.empty).length ≤ 0 from Nat.le_refl _) (show Str.length _ ≤ 200 by decide) (by decide)) (by decide)
          · exact Nat.le_trans (cat_le (k := 2121) (cat_le (k := 200) (show (Str.empty).length ≤ 0 from Nat.le_refl _) (show Str.length _ ≤ 200 by decide) (by decide)) h0 (by decide)) (by decide)
          · exact Nat.le_trans (cat_le (k := 2321) (cat_le (k := 2121) (cat_le (k := 200) (show (Str.empty).length ≤ 0 from Nat.le_refl _) (show Str.length _ ≤ 200 by decide) (by decide)) h0 (by decide)) (show Str.length _ ≤ 200 by decide) (by decide)) (by decide)
          · exact Nat.le_trans (cat_le (k := 4242) (cat_le (k := 2321) (cat_le (k := 2121) (cat_le (k := 200) (show (Str.empty).length ≤ 0 from Nat.le_refl _) (show Str.length _ ≤ 200 by decide) (by decide)) h0 (by decide)) (show Str.length _ ≤ 200 by decide) (by decide)) h1 (by decide)) (by decide)
          · exact Nat.le_trans (cat_le (k := 4442) (cat_le (k := 4242) (cat_le (k := 2321) (cat_le (k := 2121) (cat_le (k := 200) (show (Str.empty).length ≤ 0 from Nat.le_refl _) (show Str.length _ ≤ 200 by decide) (by decide)) h0 (by decide)) (show Str.length _ ≤ 200 by decide) (by decide)) h1 (by decide)) (show Str.length _ ≤ 200 by decide) (by decide)) (by decide)
          · exact ⟨by show 1 ≤ 1000; decide, ha, _, rfl, _, rfl, a, C, rfl, F.U.T, hno0, .inl ⟨ha, fun dx h1 h2 => ⟨_, rfl, _, rfl, a, C, rfl, F.U.T, hno1, .inr ⟨dx, _, upd_same, (upd_ne h2).trans upd_same, by show 1 ≤ 900; decide, q _ dx h1 h2 (fun b n1 n2 => by rw [upd_ne n2, upd_ne n1, upd_ne n2]) (by rw [upd_ne (Ne.symm h2), upd_same]) (by rw [upd_same]; rfl)⟩⟩⟩⟩
theorem scNothingToUndoI : NdefX.NScope ["self", "__class__"] ["self"] ["__class__"] (defScope sNothingToUndoI) := NdefX.nscope_by (by decide +kernel)
theorem ok_NothingToUndoI {f C : Addr} {fd : FuncData} (F : ErT P K mg C "NothingToUndo.__init__" sNothingToUndoI f fd)  : FnOk P w K mg base CX0 1 f fd ["self"] (spEr0 C) := by
  obtain ⟨oc, ccl, cl, od, cdd, cld, an, osl, ccs, csl, cda, cc, kV, doc, pm, ct, vs0, file, tf, rfl, lk, hcd, hcode, hvs, hfile, hcell⟩ := F.ex
  refine SupX.fn_sup F.U lk hcd hcode hvs hfile hcell scNothingToUndoI rfl rfl rfl (fun env => ⟨_, rfl⟩) (fun env => rfl) (fun env => rfl) (fun vs H Q E h => ?_) (fun A outer s H vs Q E hr h => ?_)
  · obtain ⟨a, rfl, _⟩ := h
    rfl
  · obtain ⟨a, rfl, ha, q⟩ := h
    exact ⟨a, _, _, rfl, ha, pa_cons pe_str pa_nil, pss_nil, by show 1 ≤ 1000; decide, ha, q⟩

theorem scNothingToRedoI : NdefX.NScope ["self", "__class__"] ["self"] ["__class__"] (defScope sNothingToRedoI) := NdefX.nscope_by (by decide +kernel)
theorem ok_NothingToRedoI {f C : Addr} {fd : FuncData} (F : ErT P K mg C "NothingToRedo.__init__" sNothingToRedoI f fd)  : FnOk P w K mg base CX0 1 f fd ["self"] (spEr0 C) := by
  obtain ⟨oc, ccl, cl, od, cdd, cld, an, osl, ccs, csl, cda, cc, kV, doc, pm, ct, vs0, file, tf, rfl, lk, hcd, hcode, hvs, hfile, hcell⟩ := F.ex
  refine SupX.fn_sup F.U lk hcd hcode hvs hfile hcell scNothingToRedoI rfl rfl rfl (fun env => ⟨_, rfl⟩) (fun env => rfl) (fun env => rfl) (fun vs H Q E h => ?_) (fun A outer s H vs Q E hr h => ?_)
  · obtain ⟨a, rfl, _⟩ := h
    rfl
  · obtain ⟨a, rfl, ha, q⟩ := h
    exact ⟨a, _, _, rfl, ha, pa_cons pe_str pa_nil, pss_nil, by show 1 ≤ 1000; decide, ha, q⟩

theorem scRefusedI : NdefX.NScope ["self", "index", "__class__"] ["self", "index"] ["__class__"] (defScope sRefusedI) := NdefX.nscope_by (by decide +kernel)
theorem ok_RefusedI {f C : Addr} {fd : FuncData} (F : ErT P K mg C "Refused.__init__" sRefusedI f fd) (hno0 : PySem.W.findIn K (.ref C) "index" = some none) : FnOk P w K mg base CX0 1 f fd ["self", "index"] (spEr C ["index"]) := by
  obtain ⟨oc, ccl, cl, od, cdd, cld, an, osl, ccs, csl, cda, cc, kV, doc, pm, ct, vs0, file, tf, rfl, lk, hcd, hcode, hvs, hfile, hcell⟩ := F.ex
  refine SupX.fn_sup F.U lk hcd hcode hvs hfile hcell scRefusedI rfl rfl rfl (fun env => ⟨_, rfl⟩) (fun env => rfl) (fun env => rfl) (fun vs H Q E h => ?_) (fun A outer s H vs Q E hr h => ?_)
  · obtain ⟨a, xs, rfl, hl, _⟩ := h
    show xs.length + 1 = _
    rw [hl]
    rfl
  · obtain ⟨a, xs, rfl, hl, hp, ha, q⟩ := h
    match xs, hl with
    | [x0], _ =>
      refine ⟨a, _, _, rfl, ha, pa_cons (pe_joined (.cons pe_str (.cons (pe_fmt (pv 1)) (.cons pe_str .nil)))) pa_nil, (pss_one (ps_ost (pv 0) (pv 1))), ?_⟩
      rcases hp x0 (by simp) with ⟨i0, rfl, h0⟩ | ⟨y0, rfl, h0⟩
      ·
        refine ⟨_, rfl, ?_, ⟨_, rfl, .inr ⟨i0, rfl, h0, _, rfl, ?_, ⟨_, rfl, ?_, ?_⟩⟩⟩⟩
        · exact Nat.le_trans (cat_le (k := 200) (show (Str.empty).length ≤ 0 from Nat.le_refl _) (show Str.length _ ≤ 200 by decide) (by decide)) (by decide)
        · exact Nat.le_trans (cat_le (k := 2121) (cat_le (k := 200) (show (Str.empty).length ≤ 0 from Nat.le_refl _) (show Str.length _ ≤ 200 by decide) (by decide)) (int_le h0) (by decide)) (by decide)
        · exact Nat.le_trans (cat_le (k := 2321) (cat_le (k := 2121) (cat_le (k := 200) (show (Str.empty).length ≤ 0 from Nat.le_refl _) (show Str.length _ ≤ 200 by decide) (by decide)) (int_le h0) (by decide)) (show Str.length _ ≤ 200 by decide) (by decide)) (by decide)
        · exact ⟨by show 1 ≤ 1000; decide, ha, _, rfl, _, rfl, a, C, rfl, F.U.T, hno0, .inl ⟨ha, fun dx h1 h2 => q _ dx h1 h2 (fun b n1 n2 => by rw [upd_ne n1, upd_ne n2]) upd_same (by rw [upd_ne h2, upd_same]; rfl)⟩⟩
      ·
        refine ⟨_, rfl, ?_, ⟨_, rfl, .inl ⟨y0, rfl, str_le (Nat.le_trans h0 (by decide)), _, rfl, ?_, ⟨_, rfl, ?_, ?_⟩⟩⟩⟩
        · exact Nat.le_trans (cat_le (k := 200) (show (Str.empty).length ≤ 0 from Nat.le_refl _) (show Str.length _ ≤ 200 by decide) (by decide)) (by decide)
        · exact Nat.le_trans (cat_le (k := 2121) (cat_le (k := 200) (show (Str.empty).length ≤ 0 from Nat.le_refl _) (show Str.length _ ≤ 200 by decide) (by decide)) h0 (by decide)) (by decide)
        · exact Nat.le_trans (cat_le (k := 2321) (cat_le (k := 2121) (cat_le (k := 200) (show (Str.empty).length ≤ 0 from Nat.le_refl _) (show Str.length _ ≤ 200 by decide) (by decide)) h0 (by decide)) (show Str.length _ ≤ 200 by decide) (by decide)) (by decide)
        · exact ⟨by show 1 ≤ 1000; decide, ha, _, rfl, _, rfl, a, C, rfl, F.U.T, hno0, .inl ⟨ha, fun dx h1 h2 => q _ dx h1 h2 (fun b n1 n2 => by rw [upd_ne n1, upd_ne n2]) upd_same (by rw [upd_ne h2, upd_same]; rfl)⟩⟩
theorem scBadLineI : NdefX.NScope ["self", "line", "__class__"] ["self", "line"] ["__class__"] (defScope sBadLineI) := NdefX.nscope_by (by decide +kernel)
theorem ok_BadLineI {f C : Addr} {fd : FuncData} (F : ErT P K mg C "BadLine.__init__" sBadLineI f fd) (hno0 : PySem.W.findIn K (.ref C) "line" = some none) : FnOk P w K mg base CX0 1 f fd ["self", "line"] (spEr C ["line"]) := by
  obtain ⟨oc, ccl, cl, od, cdd, cld, an, osl, ccs, csl, cda, cc, kV, doc, pm, ct, vs0, file, tf, rfl, lk, hcd, hcode, hvs, hfile, hcell⟩ := F.ex
  refine SupX.fn_sup F.U lk hcd hcode hvs hfile hcell scBadLineI rfl rfl rfl (fun env => ⟨_, rfl⟩) (fun env => rfl) (fun env => rfl) (fun vs H Q E h => ?_) (fun A outer s H vs Q E hr h => ?_)
  · obtain ⟨a, xs, rfl, hl, _⟩ := h
    show xs.length + 1 = _
    rw [hl]
    rfl
  · obtain ⟨a, xs, rfl, hl, hp, ha, q⟩ := h
    match xs, hl with
    | [x0], _ =>
      refine ⟨a, _, _, rfl, ha, pa_cons (pe_joined (.cons pe_str (.cons (pe_fmt (pv 1)) (.cons pe_str .nil)))) pa_nil, (pss_one (ps_ost (pv 0) (pv 1))), ?_⟩
      rcases hp x0 (by simp) with ⟨i0, rfl, h0⟩ | ⟨y0, rfl, h0⟩
      ·
        refine ⟨_, rfl, ?_, ⟨_, rfl, .inr ⟨i0, rfl, h0, _, rfl, ?_, ⟨_, rfl, ?_, ?_⟩⟩⟩⟩
        · exact Nat.le_trans (cat_le (k := 200) (show (Str.empty).length ≤ 0 from Nat.le_refl _) (show Str.length _ ≤ 200 by decide) (by decide)) (by decide)
        · exact Nat.le_trans (cat_le (k := 2121) (cat_le (k := 200) (show (Str.empty).length ≤ 0 from Nat.le_refl _) (show Str.length _ ≤ 200 by decide) (by decide)) (int_le h0) (by decide)) (by decide)
        · exact Nat.le_trans (cat_le (k := 2321) (cat_le (k := 2121) (cat_le (k := 200) (show (Str.empty).length ≤ 0 from Nat.le_refl _) (show Str.length _ ≤ 200 by decide) (by decide)) (int_le h0) (by decide)) (show Str.length _ ≤ 200 by decide) (by decide)) (by decide)
        · exact ⟨by show 1 ≤ 1000; decide, ha, _, rfl, _, rfl, a, C, rfl, F.U.T, hno0, .inl ⟨ha, fun dx h1 h2 => q _ dx h1 h2 (fun b n1 n2 => by rw [upd_ne n1, upd_ne n2]) upd_same (by rw [upd_ne h2, upd_same]; rfl)⟩⟩
      ·
        refine ⟨_, rfl, ?_, ⟨_, rfl, .inl ⟨y0, rfl, str_le (Nat.le_trans h0 (by decide)), _, rfl, ?_, ⟨_, rfl, ?_, ?_⟩⟩⟩⟩
        · exact Nat.le_trans (cat_le (k := 200) (show (Str.empty).length ≤ 0 from Nat.le_refl _) (show Str.length _ ≤ 200 by decide) (by decide)) (by decide)
        · exact Nat.le_trans (cat_le (k := 2121) (cat_le (k := 200) (show (Str.empty).length ≤ 0 from Nat.le_refl _) (show Str.length _ ≤ 200 by decide) (by decide)) h0 (by decide)) (by decide)
        · exact Nat.le_trans (cat_le (k := 2321) (cat_le (k := 2121) (cat_le (k := 200) (show (Str.empty).length ≤ 0 from Nat.le_refl _) (show Str.length _ ≤ 200 by decide) (by decide)) h0 (by decide)) (show Str.length _ ≤ 200 by decide) (by decide)) (by decide)
        · exact ⟨by show 1 ≤ 1000; decide, ha, _, rfl, _, rfl, a, C, rfl, F.U.T, hno0, .inl ⟨ha, fun dx h1 h2 => q _ dx h1 h2 (fun b n1 n2 => by rw [upd_ne n1, upd_ne n2]) upd_same (by rw [upd_ne h2, upd_same]; rfl)⟩⟩
end

theorem hdT0 {K : PySem.W.Frag} (h : hdB0 K = true) : (PySem.W.nsIn K mainGlobals "abs" = some none) ∧ (PySem.W.nsIn K mainGlobals "int" = some none) ∧ (PySem.W.nsIn K mainGlobals "len" = some none) ∧ (PySem.W.nsIn K mainGlobals "range" = some none) ∧ (PySem.W.keepIn K (.ref (He.ga K "_law_box")) = true) ∧ (PySem.W.nsIn K mainGlobals "_law_box" = some (some (.ref (He.ga K "_law_box")))) ∧ (PySem.W.keepIn K (.ref (He.ga K "_law_take")) = true) ∧ (PySem.W.nsIn K mainGlobals "_law_take" = some (some (.ref (He.ga K "_law_take")))) ∧ (PySem.W.keepIn K (.ref (He.ga K "_law_letters")) = true) ∧ (PySem.W.nsIn K mainGlobals "_law_letters" = some (some (.ref (He.ga K "_law_letters")))) ∧ (PySem.W.keepIn K (.ref (He.ga K "_law_second")) = true) ∧ (PySem.W.nsIn K mainGlobals "_law_second" = some (some (.ref (He.ga K "_law_second")))) ∧ (PySem.W.keepIn K (.ref (He.ga K "_law_late")) = true) ∧ (PySem.W.nsIn K mainGlobals "_law_late" = some (some (.ref (He.ga K "_law_late")))) ∧ (PySem.W.keepIn K (.ref (He.ga K "_law_first")) = true) ∧ (PySem.W.nsIn K mainGlobals "_law_first" = some (some (.ref (He.ga K "_law_first")))) ∧ (PySem.W.keepIn K (.ref (He.ga K "_law_early")) = true) ∧ (PySem.W.nsIn K mainGlobals "_law_early" = some (some (.ref (He.ga K "_law_early")))) ∧ (PySem.W.keepIn K (.ref (He.ga K "_law_as_base")) = true) ∧ (PySem.W.nsIn K mainGlobals "_law_as_base" = some (some (.ref (He.ga K "_law_as_base")))) := by
  unfold hdB0 at h
  obtain ⟨h0, h⟩ := He.ba h
  obtain ⟨h1, h⟩ := He.ba h
  obtain ⟨h2, h⟩ := He.ba h
  obtain ⟨h3, h⟩ := He.ba h
  obtain ⟨h4, h⟩ := He.ba h
  obtain ⟨h5, h⟩ := He.ba h
  obtain ⟨h6, h⟩ := He.ba h
  obtain ⟨h7, h⟩ := He.ba h
  obtain ⟨h8, h⟩ := He.ba h
  obtain ⟨h9, h⟩ := He.ba h
  obtain ⟨h10, h⟩ := He.ba h
  obtain ⟨h11, h⟩ := He.ba h
  obtain ⟨h12, h⟩ := He.ba h
  obtain ⟨h13, h⟩ := He.ba h
  obtain ⟨h14, h⟩ := He.ba h
  obtain ⟨h15, h⟩ := He.ba h
  obtain ⟨h16, h⟩ := He.ba h
  obtain ⟨h17, h⟩ := He.ba h
  obtain ⟨h18, h⟩ := He.ba h
  exact ⟨He.eqO_ok h0, He.eqO_ok h1, He.eqO_ok h2, He.eqO_ok h3, h4, He.eqO_ok h5, h6, He.eqO_ok h7, h8, He.eqO_ok h9, h10, He.eqO_ok h11, h12, He.eqO_ok h13, h14, He.eqO_ok h15, h16, He.eqO_ok h17, h18, He.eqO_ok h⟩
theorem hdT1 {K : PySem.W.Frag} (h : hdB1 K = true) : (PySem.W.keepIn K (.ref (He.ga K "law")) = true) ∧ (PySem.W.nsIn K mainGlobals "law" = some (some (.ref (He.ga K "law")))) ∧ (PySem.W.nsIn K mainGlobals "MurmurError" = some (some (.ref (He.ga K "MurmurError")))) ∧ (PySem.W.nsIn K mainGlobals "BadSize" = some (some (.ref (He.ga K "BadSize")))) ∧ (PySem.W.nsIn K mainGlobals "BadTable" = some (some (.ref (He.ga K "BadTable")))) ∧ (PySem.W.nsIn K mainGlobals "UnknownWord" = some (some (.ref (He.ga K "UnknownWord")))) ∧ (PySem.W.nsIn K mainGlobals "SizeMismatch" = some (some (.ref (He.ga K "SizeMismatch")))) ∧ (PySem.W.nsIn K mainGlobals "BadCount" = some (some (.ref (He.ga K "BadCount")))) ∧ (PySem.W.nsIn K mainGlobals "BadPerson" = some (some (.ref (He.ga K "BadPerson")))) ∧ (PySem.W.nsIn K mainGlobals "BadLetter" = some (some (.ref (He.ga K "BadLetter")))) ∧ (PySem.W.nsIn K mainGlobals "UnknownPerson" = some (some (.ref (He.ga K "UnknownPerson")))) ∧ (PySem.W.nsIn K mainGlobals "TooMany" = some (some (.ref (He.ga K "TooMany")))) ∧ (PySem.W.nsIn K mainGlobals "BadPattern" = some (some (.ref (He.ga K "BadPattern")))) ∧ (PySem.W.nsIn K mainGlobals "SameWord" = some (some (.ref (He.ga K "SameWord")))) ∧ (PySem.W.nsIn K mainGlobals "UnknownClue" = some (some (.ref (He.ga K "UnknownClue")))) ∧ (PySem.W.nsIn K mainGlobals "BadPlace" = some (some (.ref (He.ga K "BadPlace")))) ∧ (PySem.W.nsIn K mainGlobals "TooLong" = some (some (.ref (He.ga K "TooLong")))) ∧ (PySem.W.nsIn K mainGlobals "Melted" = some (some (.ref (He.ga K "Melted")))) ∧ (PySem.W.nsIn K mainGlobals "NothingToUndo" = some (some (.ref (He.ga K "NothingToUndo")))) ∧ (PySem.W.nsIn K mainGlobals "NothingToRedo" = some (some (.ref (He.ga K "NothingToRedo")))) := by
  unfold hdB1 at h
  obtain ⟨h0, h⟩ := He.ba h
  obtain ⟨h1, h⟩ := He.ba h
  obtain ⟨h2, h⟩ := He.ba h
  obtain ⟨h3, h⟩ := He.ba h
  obtain ⟨h4, h⟩ := He.ba h
  obtain ⟨h5, h⟩ := He.ba h
  obtain ⟨h6, h⟩ := He.ba h
  obtain ⟨h7, h⟩ := He.ba h
  obtain ⟨h8, h⟩ := He.ba h
  obtain ⟨h9, h⟩ := He.ba h
  obtain ⟨h10, h⟩ := He.ba h
  obtain ⟨h11, h⟩ := He.ba h
  obtain ⟨h12, h⟩ := He.ba h
  obtain ⟨h13, h⟩ := He.ba h
  obtain ⟨h14, h⟩ := He.ba h
  obtain ⟨h15, h⟩ := He.ba h
  obtain ⟨h16, h⟩ := He.ba h
  obtain ⟨h17, h⟩ := He.ba h
  obtain ⟨h18, h⟩ := He.ba h
  exact ⟨h0, He.eqO_ok h1, He.eqO_ok h2, He.eqO_ok h3, He.eqO_ok h4, He.eqO_ok h5, He.eqO_ok h6, He.eqO_ok h7, He.eqO_ok h8, He.eqO_ok h9, He.eqO_ok h10, He.eqO_ok h11, He.eqO_ok h12, He.eqO_ok h13, He.eqO_ok h14, He.eqO_ok h15, He.eqO_ok h16, He.eqO_ok h17, He.eqO_ok h18, He.eqO_ok h⟩
theorem hdT2 {K : PySem.W.Frag} (h : hdB2 K = true) : (PySem.W.nsIn K mainGlobals "Refused" = some (some (.ref (He.ga K "Refused")))) ∧ (PySem.W.nsIn K mainGlobals "BadLine" = some (some (.ref (He.ga K "BadLine")))) ∧ (PySem.W.nsIn K mainGlobals "ValueError" = some none) ∧ (PySem.W.nsIn K mainGlobals "isinstance" = some none) ∧ (PySem.W.specialIn K (.builtin "object.__class__") "__get__" = some (some (.builtin "getset_descriptor.__get__"))) ∧ (PySem.W.takesIn K (.builtin "object.__class__") = some true) ∧ (∃ nm q N bs bm sn sub ab col dd k0 k1 k2 k3 k5, K.lookup (He.ga K "BadSize") = some (excClassObj nm q (He.ga K "BadSize") N bs bm true sn sub ab col dd k0 k1 k2 k3 k5 "ValueError.__new__") ∧ PySem.HandSPX.refsVE bm = true) ∧ (PySem.W.findIn K (.ref (He.ga K "BadSize")) "__setattr__" = some (some (.builtin "object.__setattr__"))) ∧ (PySem.W.subIn K (.ref (He.ga K "BadSize")) (.type "BaseException") = some true) ∧ (PySem.W.typeIn K (.ref (He.ga K "BadSize")) = some (.type "type")) ∧ (PySem.W.keepIn K (.ref (He.ga K "BadSize")) = true) ∧ (PySem.W.mroIn K (He.ga K "BadSize") (.ref (He.ga K "BadSize")) = some true) ∧ (PySem.W.subIn K (.ref (He.ga K "BadSize")) (.type "ValueError") = some true) ∧ (PySem.W.ks_superIn K (He.ga K "BadSize") (He.ga K "BadSize") "__init__" = some (some (.builtin "ValueError.__init__"))) ∧ (PySem.W.nsIn K mainGlobals "super" = some none) ∧ (PySem.W.nsIn K cStatics "thirdparty.any" = some none) ∧ (∃ ek ew ev er ef eg, K.lookup (Hd.codeOf K (He.ma K (He.ga K "BadSize") "__init__")) = some ⟨ek, ew, .fields ev, er⟩ ∧ ev[2]? = some (.str ef eg) ∧ (((PySem.Challenge.rw_murmurline_k77_whole_family_of_errors).prog.main.file : Str) == ef) = true) ∧ (∃ el eu eq, K.lookup (Hd.cellOf K (He.ma K (He.ga K "BadSize") "__init__")) = some ⟨el, eu, .cell (some (.ref (He.ga K "BadSize"))), eq⟩) ∧ (PySem.W.findIn K (.ref (He.ga K "BadSize")) "__init__" = some (some (.ref (He.ma K (He.ga K "BadSize") "__init__")))) ∧ (PySem.W.typeIn K (.ref (He.ma K (He.ga K "BadSize") "__init__")) = some (.type "function")) := by
  unfold hdB2 at h
  obtain ⟨h0, h⟩ := He.ba h
  obtain ⟨h1, h⟩ := He.ba h
  obtain ⟨h2, h⟩ := He.ba h
  obtain ⟨h3, h⟩ := He.ba h
  obtain ⟨h4, h⟩ := He.ba h
  obtain ⟨h5, h⟩ := He.ba h
  obtain ⟨h6, h⟩ := He.ba h
  obtain ⟨h7, h⟩ := He.ba h
  obtain ⟨h8, h⟩ := He.ba h
  obtain ⟨h9, h⟩ := He.ba h
  obtain ⟨h10, h⟩ := He.ba h
  obtain ⟨h11, h⟩ := He.ba h
  obtain ⟨h12, h⟩ := He.ba h
  obtain ⟨h13, h⟩ := He.ba h
  obtain ⟨h14, h⟩ := He.ba h
  obtain ⟨h15, h⟩ := He.ba h
  obtain ⟨h16, h⟩ := He.ba h
  obtain ⟨h17, h⟩ := He.ba h
  obtain ⟨h18, h⟩ := He.ba h
  exact ⟨He.eqO_ok h0, He.eqO_ok h1, He.eqO_ok h2, He.eqO_ok h3, He.eqO_ok h4, of_decide_eq_true h5, Hd.ec_ok h6, He.eqO_ok h7, of_decide_eq_true h8, of_decide_eq_true h9, h10, of_decide_eq_true h11, of_decide_eq_true h12, He.eqO_ok h13, He.eqO_ok h14, He.eqO_ok h15, Hd.file_ok h16, Hd.cell_ok h17, He.eqO_ok h18, of_decide_eq_true h⟩
theorem hdT3 {K : PySem.W.Frag} (h : hdB3 K = true) : (PySem.W.findIn K (.ref (He.ga K "BadSize")) "size" = some none) ∧ (PySem.W.findIn K (.ref (He.ga K "BadSize")) "__getattribute__" = some (some (.builtin "BaseException.__getattribute__"))) ∧ (PySem.W.findIn K (.ref (He.ga K "BadSize")) "__getattr__" = some none) ∧ (PySem.W.hasDictIn K (He.ga K "BadSize") = true) ∧ (PySem.W.findIn K (.ref (He.ga K "BadSize")) "__class__" = some (some (.builtin "object.__class__"))) ∧ (PySem.W.mroIn K (He.ga K "BadSize") (.type "object") = some true) ∧ (PySem.W.subIn K (.ref (He.ga K "BadSize")) (.ref (He.ga K "BadSize")) = some true) ∧ ((PySem.W.clsIn K (He.ga K "BadSize")).isSome = true) ∧ ((PySem.W.clsIn K (He.ga K "BadTable")).isSome = true) ∧ (PySem.W.typeIn K (.ref (He.ga K "BadTable")) = some (.type "type")) ∧ (PySem.W.subIn K (.ref (He.ga K "BadSize")) (.ref (He.ga K "BadTable")) = some false) ∧ ((PySem.W.clsIn K (He.ga K "UnknownWord")).isSome = true) ∧ (PySem.W.typeIn K (.ref (He.ga K "UnknownWord")) = some (.type "type")) ∧ (PySem.W.subIn K (.ref (He.ga K "BadSize")) (.ref (He.ga K "UnknownWord")) = some false) ∧ ((PySem.W.clsIn K (He.ga K "SizeMismatch")).isSome = true) ∧ (PySem.W.typeIn K (.ref (He.ga K "SizeMismatch")) = some (.type "type")) ∧ (PySem.W.subIn K (.ref (He.ga K "BadSize")) (.ref (He.ga K "SizeMismatch")) = some false) ∧ ((PySem.W.clsIn K (He.ga K "BadCount")).isSome = true) ∧ (PySem.W.typeIn K (.ref (He.ga K "BadCount")) = some (.type "type")) ∧ (PySem.W.subIn K (.ref (He.ga K "BadSize")) (.ref (He.ga K "BadCount")) = some false) := by
  unfold hdB3 at h
  obtain ⟨h0, h⟩ := He.ba h
  obtain ⟨h1, h⟩ := He.ba h
  obtain ⟨h2, h⟩ := He.ba h
  obtain ⟨h3, h⟩ := He.ba h
  obtain ⟨h4, h⟩ := He.ba h
  obtain ⟨h5, h⟩ := He.ba h
  obtain ⟨h6, h⟩ := He.ba h
  obtain ⟨h7, h⟩ := He.ba h
  obtain ⟨h8, h⟩ := He.ba h
  obtain ⟨h9, h⟩ := He.ba h
  obtain ⟨h10, h⟩ := He.ba h
  obtain ⟨h11, h⟩ := He.ba h
  obtain ⟨h12, h⟩ := He.ba h
  obtain ⟨h13, h⟩ := He.ba h
  obtain ⟨h14, h⟩ := He.ba h
  obtain ⟨h15, h⟩ := He.ba h
  obtain ⟨h16, h⟩ := He.ba h
  obtain ⟨h17, h⟩ := He.ba h
  obtain ⟨h18, h⟩ := He.ba h
  exact ⟨He.eqO_ok h0, He.eqO_ok h1, He.eqO_ok h2, h3, He.eqO_ok h4, of_decide_eq_true h5, of_decide_eq_true h6, h7, h8, of_decide_eq_true h9, of_decide_eq_true h10, h11, of_decide_eq_true h12, of_decide_eq_true h13, h14, of_decide_eq_true h15, of_decide_eq_true h16, h17, of_decide_eq_true h18, of_decide_eq_true h⟩
theorem hdT4 {K : PySem.W.Frag} (h : hdB4 K = true) : ((PySem.W.clsIn K (He.ga K "BadPerson")).isSome = true) ∧ (PySem.W.typeIn K (.ref (He.ga K "BadPerson")) = some (.type "type")) ∧ (PySem.W.subIn K (.ref (He.ga K "BadSize")) (.ref (He.ga K "BadPerson")) = some false) ∧ ((PySem.W.clsIn K (He.ga K "BadLetter")).isSome = true) ∧ (PySem.W.typeIn K (.ref (He.ga K "BadLetter")) = some (.type "type")) ∧ (PySem.W.subIn K (.ref (He.ga K "BadSize")) (.ref (He.ga K "BadLetter")) = some false) ∧ ((PySem.W.clsIn K (He.ga K "UnknownPerson")).isSome = true) ∧ (PySem.W.typeIn K (.ref (He.ga K "UnknownPerson")) = some (.type "type")) ∧ (PySem.W.subIn K (.ref (He.ga K "BadSize")) (.ref (He.ga K "UnknownPerson")) = some false) ∧ ((PySem.W.clsIn K (He.ga K "TooMany")).isSome = true) ∧ (PySem.W.typeIn K (.ref (He.ga K "TooMany")) = some (.type "type")) ∧ (PySem.W.subIn K (.ref (He.ga K "BadSize")) (.ref (He.ga K "TooMany")) = some false) ∧ ((PySem.W.clsIn K (He.ga K "BadPattern")).isSome = true) ∧ (PySem.W.typeIn K (.ref (He.ga K "BadPattern")) = some (.type "type")) ∧ (PySem.W.subIn K (.ref (He.ga K "BadSize")) (.ref (He.ga K "BadPattern")) = some false) ∧ ((PySem.W.clsIn K (He.ga K "SameWord")).isSome = true) ∧ (PySem.W.typeIn K (.ref (He.ga K "SameWord")) = some (.type "type")) ∧ (PySem.W.subIn K (.ref (He.ga K "BadSize")) (.ref (He.ga K "SameWord")) = some false) ∧ ((PySem.W.clsIn K (He.ga K "UnknownClue")).isSome = true) ∧ (PySem.W.typeIn K (.ref (He.ga K "UnknownClue")) = some (.type "type")) := by
  unfold hdB4 at h
  obtain ⟨h0, h⟩ := He.ba h
  obtain ⟨h1, h⟩ := He.ba h
  obtain ⟨h2, h⟩ := He.ba h
  obtain ⟨h3, h⟩ := He.ba h
  obtain ⟨h4, h⟩ := He.ba h
  obtain ⟨h5, h⟩ := He.ba h
  obtain ⟨h6, h⟩ := He.ba h
  obtain ⟨h7, h⟩ := He.ba h
  obtain ⟨h8, h⟩ := He.ba h
  obtain ⟨h9, h⟩ := He.ba h
  obtain ⟨h10, h⟩ := He.ba h
  obtain ⟨h11, h⟩ := He.ba h
  obtain ⟨h12, h⟩ := He.ba h
  obtain ⟨h13, h⟩ := He.ba h
  obtain ⟨h14, h⟩ := He.ba h
  obtain ⟨h15, h⟩ := He.ba h
  obtain ⟨h16, h⟩ := He.ba h
  obtain ⟨h17, h⟩ := He.ba h
  obtain ⟨h18, h⟩ := He.ba h
  exact ⟨h0, of_decide_eq_true h1, of_decide_eq_true h2, h3, of_decide_eq_true h4, of_decide_eq_true h5, h6, of_decide_eq_true h7, of_decide_eq_true h8, h9, of_decide_eq_true h10, of_decide_eq_true h11, h12, of_decide_eq_true h13, of_decide_eq_true h14, h15, of_decide_eq_true h16, of_decide_eq_true h17, h18, of_decide_eq_true h⟩
theorem hdT5 {K : PySem.W.Frag} (h : hdB5 K = true) : (PySem.W.subIn K (.ref (He.ga K "BadSize")) (.ref (He.ga K "UnknownClue")) = some false) ∧ ((PySem.W.clsIn K (He.ga K "BadPlace")).isSome = true) ∧ (PySem.W.typeIn K (.ref (He.ga K "BadPlace")) = some (.type "type")) ∧ (PySem.W.subIn K (.ref (He.ga K "BadSize")) (.ref (He.ga K "BadPlace")) = some false) ∧ ((PySem.W.clsIn K (He.ga K "TooLong")).isSome = true) ∧ (PySem.W.typeIn K (.ref (He.ga K "TooLong")) = some (.type "type")) ∧ (PySem.W.subIn K (.ref (He.ga K "BadSize")) (.ref (He.ga K "TooLong")) = some false) ∧ ((PySem.W.clsIn K (He.ga K "Melted")).isSome = true) ∧ (PySem.W.typeIn K (.ref (He.ga K "Melted")) = some (.type "type")) ∧ (PySem.W.subIn K (.ref (He.ga K "BadSize")) (.ref (He.ga K "Melted")) = some false) ∧ ((PySem.W.clsIn K (He.ga K "NothingToUndo")).isSome = true) ∧ (PySem.W.typeIn K (.ref (He.ga K "NothingToUndo")) = some (.type "type")) ∧ (PySem.W.subIn K (.ref (He.ga K "BadSize")) (.ref (He.ga K "NothingToUndo")) = some false) ∧ ((PySem.W.clsIn K (He.ga K "NothingToRedo")).isSome = true) ∧ (PySem.W.typeIn K (.ref (He.ga K "NothingToRedo")) = some (.type "type")) ∧ (PySem.W.subIn K (.ref (He.ga K "BadSize")) (.ref (He.ga K "NothingToRedo")) = some false) ∧ ((PySem.W.clsIn K (He.ga K "Refused")).isSome = true) ∧ (PySem.W.typeIn K (.ref (He.ga K "Refused")) = some (.type "type")) ∧ (PySem.W.subIn K (.ref (He.ga K "BadSize")) (.ref (He.ga K "Refused")) = some false) ∧ ((PySem.W.clsIn K (He.ga K "BadLine")).isSome = true) := by
  unfold hdB5 at h
  obtain ⟨h0, h⟩ := He.ba h
  obtain ⟨h1, h⟩ := He.ba h
  obtain ⟨h2, h⟩ := He.ba h
  obtain ⟨h3, h⟩ := He.ba h
  obtain ⟨h4, h⟩ := He.ba h
  obtain ⟨h5, h⟩ := He.ba h
  obtain ⟨h6, h⟩ := He.ba h
  obtain ⟨h7, h⟩ := He.ba h
  obtain ⟨h8, h⟩ := He.ba h
  obtain ⟨h9, h⟩ := He.ba h
  obtain ⟨h10, h⟩ := He.ba h
  obtain ⟨h11, h⟩ := He.ba h
  obtain ⟨h12, h⟩ := He.ba h
  obtain ⟨h13, h⟩ := He.ba h
  obtain ⟨h14, h⟩ := He.ba h
  obtain ⟨h15, h⟩ := He.ba h
  obtain ⟨h16, h⟩ := He.ba h
  obtain ⟨h17, h⟩ := He.ba h
  obtain ⟨h18, h⟩ := He.ba h
  exact ⟨of_decide_eq_true h0, h1, of_decide_eq_true h2, of_decide_eq_true h3, h4, of_decide_eq_true h5, of_decide_eq_true h6, h7, of_decide_eq_true h8, of_decide_eq_true h9, h10, of_decide_eq_true h11, of_decide_eq_true h12, h13, of_decide_eq_true h14, of_decide_eq_true h15, h16, of_decide_eq_true h17, of_decide_eq_true h18, h⟩
theorem hdT6 {K : PySem.W.Frag} (h : hdB6 K = true) : (PySem.W.typeIn K (.ref (He.ga K "BadLine")) = some (.type "type")) ∧ (PySem.W.subIn K (.ref (He.ga K "BadSize")) (.ref (He.ga K "BadLine")) = some false) ∧ ((PySem.W.clsIn K (He.ga K "MurmurError")).isSome = true) ∧ (PySem.W.typeIn K (.ref (He.ga K "MurmurError")) = some (.type "type")) ∧ (PySem.W.subIn K (.ref (He.ga K "BadSize")) (.ref (He.ga K "MurmurError")) = some true) ∧ (∃ nm q N bs bm sn sub ab col dd k0 k1 k2 k3 k5, K.lookup (He.ga K "BadTable") = some (excClassObj nm q (He.ga K "BadTable") N bs bm true sn sub ab col dd k0 k1 k2 k3 k5 "ValueError.__new__") ∧ PySem.HandSPX.refsVE bm = true) ∧ (PySem.W.findIn K (.ref (He.ga K "BadTable")) "__setattr__" = some (some (.builtin "object.__setattr__"))) ∧ (PySem.W.subIn K (.ref (He.ga K "BadTable")) (.type "BaseException") = some true) ∧ (PySem.W.keepIn K (.ref (He.ga K "BadTable")) = true) ∧ (PySem.W.mroIn K (He.ga K "BadTable") (.ref (He.ga K "BadTable")) = some true) ∧ (PySem.W.subIn K (.ref (He.ga K "BadTable")) (.type "ValueError") = some true) ∧ (PySem.W.ks_superIn K (He.ga K "BadTable") (He.ga K "BadTable") "__init__" = some (some (.builtin "ValueError.__init__"))) ∧ (∃ ek ew ev er ef eg, K.lookup (Hd.codeOf K (He.ma K (He.ga K "BadTable") "__init__")) = some ⟨ek, ew, .fields ev, er⟩ ∧ ev[2]? = some (.str ef eg) ∧ (((PySem.Challenge.rw_murmurline_k77_whole_family_of_errors).prog.main.file : Str) == ef) = true) ∧ (∃ el eu eq, K.lookup (Hd.cellOf K (He.ma K (He.ga K "BadTable") "__init__")) = some ⟨el, eu, .cell (some (.ref (He.ga K "BadTable"))), eq⟩) ∧ (PySem.W.findIn K (.ref (He.ga K "BadTable")) "__init__" = some (some (.ref (He.ma K (He.ga K "BadTable") "__init__")))) ∧ (PySem.W.typeIn K (.ref (He.ma K (He.ga K "BadTable") "__init__")) = some (.type "function")) ∧ (PySem.W.findIn K (.ref (He.ga K "BadTable")) "index" = some none) ∧ (PySem.W.findIn K (.ref (He.ga K "BadTable")) "__getattribute__" = some (some (.builtin "BaseException.__getattribute__"))) ∧ (PySem.W.findIn K (.ref (He.ga K "BadTable")) "__getattr__" = some none) ∧ (PySem.W.hasDictIn K (He.ga K "BadTable") = true) := by
  unfold hdB6 at h
  obtain ⟨h0, h⟩ := He.ba h
  obtain ⟨h1, h⟩ := He.ba h
  obtain ⟨h2, h⟩ := He.ba h
  obtain ⟨h3, h⟩ := He.ba h
  obtain ⟨h4, h⟩ := He.ba h
  obtain ⟨h5, h⟩ := He.ba h
  obtain ⟨h6, h⟩ := He.ba h
  obtain ⟨h7, h⟩ := He.ba h
  obtain ⟨h8, h⟩ := He.ba h
  obtain ⟨h9, h⟩ := He.ba h
  obtain ⟨h10, h⟩ := He.ba h
  obtain ⟨h11, h⟩ := He.ba h
  obtain ⟨h12, h⟩ := He.ba h
  obtain ⟨h13, h⟩ := He.ba h
  obtain ⟨h14, h⟩ := He.ba h
  obtain ⟨h15, h⟩ := He.ba h
  obtain ⟨h16, h⟩ := He.ba h
  obtain ⟨h17, h⟩ := He.ba h
  obtain ⟨h18, h⟩ := He.ba h
  exact ⟨of_decide_eq_true h0, of_decide_eq_true h1, h2, of_decide_eq_true h3, of_decide_eq_true h4, Hd.ec_ok h5, He.eqO_ok h6, of_decide_eq_true h7, h8, of_decide_eq_true h9, of_decide_eq_true h10, He.eqO_ok h11, Hd.file_ok h12, Hd.cell_ok h13, He.eqO_ok h14, of_decide_eq_true h15, He.eqO_ok h16, He.eqO_ok h17, He.eqO_ok h18, h⟩
theorem hdT7 {K : PySem.W.Frag} (h : hdB7 K = true) : (PySem.W.findIn K (.ref (He.ga K "BadTable")) "__class__" = some (some (.builtin "object.__class__"))) ∧ (PySem.W.mroIn K (He.ga K "BadTable") (.type "object") = some true) ∧ (PySem.W.subIn K (.ref (He.ga K "BadTable")) (.ref (He.ga K "BadTable")) = some true) ∧ (PySem.W.subIn K (.ref (He.ga K "BadTable")) (.ref (He.ga K "BadSize")) = some false) ∧ (PySem.W.subIn K (.ref (He.ga K "BadTable")) (.ref (He.ga K "UnknownWord")) = some false) ∧ (PySem.W.subIn K (.ref (He.ga K "BadTable")) (.ref (He.ga K "SizeMismatch")) = some false) ∧ (PySem.W.subIn K (.ref (He.ga K "BadTable")) (.ref (He.ga K "BadCount")) = some false) ∧ (PySem.W.subIn K (.ref (He.ga K "BadTable")) (.ref (He.ga K "BadPerson")) = some false) ∧ (PySem.W.subIn K (.ref (He.ga K "BadTable")) (.ref (He.ga K "BadLetter")) = some false) ∧ (PySem.W.subIn K (.ref (He.ga K "BadTable")) (.ref (He.ga K "UnknownPerson")) = some false) ∧ (PySem.W.subIn K (.ref (He.ga K "BadTable")) (.ref (He.ga K "TooMany")) = some false) ∧ (PySem.W.subIn K (.ref (He.ga K "BadTable")) (.ref (He.ga K "BadPattern")) = some false) ∧ (PySem.W.subIn K (.ref (He.ga K "BadTable")) (.ref (He.ga K "SameWord")) = some false) ∧ (PySem.W.subIn K (.ref (He.ga K "BadTable")) (.ref (He.ga K "UnknownClue")) = some false) ∧ (PySem.W.subIn K (.ref (He.ga K "BadTable")) (.ref (He.ga K "BadPlace")) = some false) ∧ (PySem.W.subIn K (.ref (He.ga K "BadTable")) (.ref (He.ga K "TooLong")) = some false) ∧ (PySem.W.subIn K (.ref (He.ga K "BadTable")) (.ref (He.ga K "Melted")) = some false) ∧ (PySem.W.subIn K (.ref (He.ga K "BadTable")) (.ref (He.ga K "NothingToUndo")) = some false) ∧ (PySem.W.subIn K (.ref (He.ga K "BadTable")) (.ref (He.ga K "NothingToRedo")) = some false) ∧ (PySem.W.subIn K (.ref (He.ga K "BadTable")) (.ref (He.ga K "Refused")) = some false) := by
  unfold hdB7 at h
  obtain ⟨h0, h⟩ := He.ba h
  obtain ⟨h1, h⟩ := He.ba h
  obtain ⟨h2, h⟩ := He.ba h
  obtain ⟨h3, h⟩ := He.ba h
  obtain ⟨h4, h⟩ := He.ba h
  obtain ⟨h5, h⟩ := He.ba h
  obtain ⟨h6, h⟩ := He.ba h
  obtain ⟨h7, h⟩ := He.ba h
  obtain ⟨h8, h⟩ := He.ba h
  obtain ⟨h9, h⟩ := He.ba h
  obtain ⟨h10, h⟩ := He.ba h
  obtain ⟨h11, h⟩ := He.ba h
  obtain ⟨h12, h⟩ := He.ba h
  obtain ⟨h13, h⟩ := He.ba h
  obtain ⟨h14, h⟩ := He.ba h
  obtain ⟨h15, h⟩ := He.ba h
  obtain ⟨h16, h⟩ := He.ba h
  obtain ⟨h17, h⟩ := He.ba h
  obtain ⟨h18, h⟩ := He.ba h
  exact ⟨He.eqO_ok h0, of_decide_eq_true h1, of_decide_eq_true h2, of_decide_eq_true h3, of_decide_eq_true h4, of_decide_eq_true h5, of_decide_eq_true h6, of_decide_eq_true h7, of_decide_eq_true h8, of_decide_eq_true h9, of_decide_eq_true h10, of_decide_eq_true h11, of_decide_eq_true h12, of_decide_eq_true h13, of_decide_eq_true h14, of_decide_eq_true h15, of_decide_eq_true h16, of_decide_eq_true h17, of_decide_eq_true h18, of_decide_eq_true h⟩
theorem hdT8 {K : PySem.W.Frag} (h : hdB8 K = true) : (PySem.W.subIn K (.ref (He.ga K "BadTable")) (.ref (He.ga K "BadLine")) = some false) ∧ (PySem.W.subIn K (.ref (He.ga K "BadTable")) (.ref (He.ga K "MurmurError")) = some true) ∧ (∃ nm q N bs bm sn sub ab col dd k0 k1 k2 k3 k5, K.lookup (He.ga K "UnknownWord") = some (excClassObj nm q (He.ga K "UnknownWord") N bs bm true sn sub ab col dd k0 k1 k2 k3 k5 "ValueError.__new__") ∧ PySem.HandSPX.refsVE bm = true) ∧ (PySem.W.findIn K (.ref (He.ga K "UnknownWord")) "__setattr__" = some (some (.builtin "object.__setattr__"))) ∧ (PySem.W.subIn K (.ref (He.ga K "UnknownWord")) (.type "BaseException") = some true) ∧ (PySem.W.keepIn K (.ref (He.ga K "UnknownWord")) = true) ∧ (PySem.W.mroIn K (He.ga K "UnknownWord") (.ref (He.ga K "UnknownWord")) = some true) ∧ (PySem.W.subIn K (.ref (He.ga K "UnknownWord")) (.type "ValueError") = some true) ∧ (PySem.W.ks_superIn K (He.ga K "UnknownWord") (He.ga K "UnknownWord") "__init__" = some (some (.builtin "ValueError.__init__"))) ∧ (∃ ek ew ev er ef eg, K.lookup (Hd.codeOf K (He.ma K (He.ga K "UnknownWord") "__init__")) = some ⟨ek, ew, .fields ev, er⟩ ∧ ev[2]? = some (.str ef eg) ∧ (((PySem.Challenge.rw_murmurline_k77_whole_family_of_errors).prog.main.file : Str) == ef) = true) ∧ (∃ el eu eq, K.lookup (Hd.cellOf K (He.ma K (He.ga K "UnknownWord") "__init__")) = some ⟨el, eu, .cell (some (.ref (He.ga K "UnknownWord"))), eq⟩) ∧ (PySem.W.findIn K (.ref (He.ga K "UnknownWord")) "__init__" = some (some (.ref (He.ma K (He.ga K "UnknownWord") "__init__")))) ∧ (PySem.W.typeIn K (.ref (He.ma K (He.ga K "UnknownWord") "__init__")) = some (.type "function")) ∧ (PySem.W.findIn K (.ref (He.ga K "UnknownWord")) "word" = some none) ∧ (PySem.W.findIn K (.ref (He.ga K "UnknownWord")) "__getattribute__" = some (some (.builtin "BaseException.__getattribute__"))) ∧ (PySem.W.findIn K (.ref (He.ga K "UnknownWord")) "__getattr__" = some none) ∧ (PySem.W.hasDictIn K (He.ga K "UnknownWord") = true) ∧ (PySem.W.findIn K (.ref (He.ga K "UnknownWord")) "__class__" = some (some (.builtin "object.__class__"))) ∧ (PySem.W.mroIn K (He.ga K "UnknownWord") (.type "object") = some true) ∧ (PySem.W.subIn K (.ref (He.ga K "UnknownWord")) (.ref (He.ga K "UnknownWord")) = some true) := by
  unfold hdB8 at h
  obtain ⟨h0, h⟩ := He.ba h
  obtain ⟨h1, h⟩ := He.ba h
  obtain ⟨h2, h⟩ := He.ba h
  obtain ⟨h3, h⟩ := He.ba h
  obtain ⟨h4, h⟩ := He.ba h
  obtain ⟨h5, h⟩ := He.ba h
  obtain ⟨h6, h⟩ := He.ba h
  obtain ⟨h7, h⟩ := He.ba h
  obtain ⟨h8, h⟩ := He.ba h
  obtain ⟨h9, h⟩ := He.ba h
  obtain ⟨h10, h⟩ := He.ba h
  obtain ⟨h11, h⟩ := He.ba h
  obtain ⟨h12, h⟩ := He.ba h
  obtain ⟨h13, h⟩ := He.ba h
  obtain ⟨h14, h⟩ := He.ba h
  obtain ⟨h15, h⟩ := He.ba h
  obtain ⟨h16, h⟩ := He.ba h
  obtain ⟨h17, h⟩ := He.ba h
  obtain ⟨h18, h⟩ := He.ba h
  exact ⟨of_decide_eq_true h0, of_decide_eq_true h1, Hd.ec_ok h2, He.eqO_ok h3, of_decide_eq_true h4, h5, of_decide_eq_true h6, of_decide_eq_true h7, He.eqO_ok h8, Hd.file_ok h9, Hd.cell_ok h10, He.eqO_ok h11, of_decide_eq_true h12, He.eqO_ok h13, He.eqO_ok h14, He.eqO_ok h15, h16, He.eqO_ok h17, of_decide_eq_true h18, of_decide_eq_true h⟩
theorem hdT9 {K : PySem.W.Frag} (h : hdB9 K = true) : (PySem.W.subIn K (.ref (He.ga K "UnknownWord")) (.ref (He.ga K "BadSize")) = some false) ∧ (PySem.W.subIn K (.ref (He.ga K "UnknownWord")) (.ref (He.ga K "BadTable")) = some false) ∧ (PySem.W.subIn K (.ref (He.ga K "UnknownWord")) (.ref (He.ga K "SizeMismatch")) = some false) ∧ (PySem.W.subIn K (.ref (He.ga K "UnknownWord")) (.ref (He.ga K "BadCount")) = some false) ∧ (PySem.W.subIn K (.ref (He.ga K "UnknownWord")) (.ref (He.ga K "BadPerson")) = some false) ∧ (PySem.W.subIn K (.ref (He.ga K "UnknownWord")) (.ref (He.ga K "BadLetter")) = some false) ∧ (PySem.W.subIn K (.ref (He.ga K "UnknownWord")) (.ref (He.ga K "UnknownPerson")) = some false) ∧ (PySem.W.subIn K (.ref (He.ga K "UnknownWord")) (.ref (He.ga K "TooMany")) = some false) ∧ (PySem.W.subIn K (.ref (He.ga K "UnknownWord")) (.ref (He.ga K "BadPattern")) = some false) ∧ (PySem.W.subIn K (.ref (He.ga K "UnknownWord")) (.ref (He.ga K "SameWord")) = some false) ∧ (PySem.W.subIn K (.ref (He.ga K "UnknownWord")) (.ref (He.ga K "UnknownClue")) = some false) ∧ (PySem.W.subIn K (.ref (He.ga K "UnknownWord")) (.ref (He.ga K "BadPlace")) = some false) ∧ (PySem.W.subIn K (.ref (He.ga K "UnknownWord")) (.ref (He.ga K "TooLong")) = some false) ∧ (PySem.W.subIn K (.ref (He.ga K "UnknownWord")) (.ref (He.ga K "Melted")) = some false) ∧ (PySem.W.subIn K (.ref (He.ga K "UnknownWord")) (.ref (He.ga K "NothingToUndo")) = some false) ∧ (PySem.W.subIn K (.ref (He.ga K "UnknownWord")) (.ref (He.ga K "NothingToRedo")) = some false) ∧ (PySem.W.subIn K (.ref (He.ga K "UnknownWord")) (.ref (He.ga K "Refused")) = some false) ∧ (PySem.W.subIn K (.ref (He.ga K "UnknownWord")) (.ref (He.ga K "BadLine")) = some false) ∧ (PySem.W.subIn K (.ref (He.ga K "UnknownWord")) (.ref (He.ga K "MurmurError")) = some true) ∧ (∃ nm q N bs bm sn sub ab col dd k0 k1 k2 k3 k5, K.lookup (He.ga K "SizeMismatch") = some (excClassObj nm q (He.ga K "SizeMismatch") N bs bm true sn sub ab col dd k0 k1 k2 k3 k5 "ValueError.__new__") ∧ PySem.HandSPX.refsVE bm = true) := by
  unfold hdB9 at h
  obtain ⟨h0, h⟩ := He.ba h
  obtain ⟨h1, h⟩ := He.ba h
  obtain ⟨h2, h⟩ := He.ba h
  obtain ⟨h3, h⟩ := He.ba h
  obtain ⟨h4, h⟩ := He.ba h
  obtain ⟨h5, h⟩ := He.ba h
  obtain ⟨h6, h⟩ := He.ba h
  obtain ⟨h7, h⟩ := He.ba h
  obtain ⟨h8, h⟩ := He.ba h
  obtain ⟨h9, h⟩ := He.ba h
  obtain ⟨h10, h⟩ := He.ba h
  obtain ⟨h11, h⟩ := He.ba h
  obtain ⟨h12, h⟩ := He.ba h
  obtain ⟨h13, h⟩ := He.ba h
  obtain ⟨h14, h⟩ := He.ba h
  obtain ⟨h15, h⟩ := He.ba h
  obtain ⟨h16, h⟩ := He.ba h
  obtain ⟨h17, h⟩ := He.ba h
  obtain ⟨h18, h⟩ := He.ba h
  exact ⟨of_decide_eq_true h0, of_decide_eq_true h1, of_decide_eq_true h2, of_decide_eq_true h3, of_decide_eq_true h4, of_decide_eq_true h5, of_decide_eq_true h6, of_decide_eq_true h7, of_decide_eq_true h8, of_decide_eq_true h9, of_decide_eq_true h10, of_decide_eq_true h11, of_decide_eq_true h12, of_decide_eq_true h13, of_decide_eq_true h14, of_decide_eq_true h15, of_decide_eq_true h16, of_decide_eq_true h17, of_decide_eq_true h18, Hd.ec_ok h⟩
theorem hdT10 {K : PySem.W.Frag} (h : hdB10 K = true) : (PySem.W.findIn K (.ref (He.ga K "SizeMismatch")) "__setattr__" = some (some (.builtin "object.__setattr__"))) ∧ (PySem.W.subIn K (.ref (He.ga K "SizeMismatch")) (.type "BaseException") = some true) ∧ (PySem.W.keepIn K (.ref (He.ga K "SizeMismatch")) = true) ∧ (PySem.W.mroIn K (He.ga K "SizeMismatch") (.ref (He.ga K "SizeMismatch")) = some true) ∧ (PySem.W.subIn K (.ref (He.ga K "SizeMismatch")) (.type "ValueError") = some true) ∧ (PySem.W.ks_superIn K (He.ga K "SizeMismatch") (He.ga K "SizeMismatch") "__init__" = some (some (.builtin "ValueError.__init__"))) ∧ (∃ ek ew ev er ef eg, K.lookup (Hd.codeOf K (He.ma K (He.ga K "SizeMismatch") "__init__")) = some ⟨ek, ew, .fields ev, er⟩ ∧ ev[2]? = some (.str ef eg) ∧ (((PySem.Challenge.rw_murmurline_k77_whole_family_of_errors).prog.main.file : Str) == ef) = true) ∧ (∃ el eu eq, K.lookup (Hd.cellOf K (He.ma K (He.ga K "SizeMismatch") "__init__")) = some ⟨el, eu, .cell (some (.ref (He.ga K "SizeMismatch"))), eq⟩) ∧ (PySem.W.findIn K (.ref (He.ga K "SizeMismatch")) "__init__" = some (some (.ref (He.ma K (He.ga K "SizeMismatch") "__init__")))) ∧ (PySem.W.typeIn K (.ref (He.ma K (He.ga K "SizeMismatch") "__init__")) = some (.type "function")) ∧ (PySem.W.findIn K (.ref (He.ga K "SizeMismatch")) "first" = some none) ∧ (PySem.W.findIn K (.ref (He.ga K "SizeMismatch")) "second" = some none) ∧ (PySem.W.findIn K (.ref (He.ga K "SizeMismatch")) "__getattribute__" = some (some (.builtin "BaseException.__getattribute__"))) ∧ (PySem.W.findIn K (.ref (He.ga K "SizeMismatch")) "__getattr__" = some none) ∧ (PySem.W.hasDictIn K (He.ga K "SizeMismatch") = true) ∧ (PySem.W.findIn K (.ref (He.ga K "SizeMismatch")) "__class__" = some (some (.builtin "object.__class__"))) ∧ (PySem.W.mroIn K (He.ga K "SizeMismatch") (.type "object") = some true) ∧ (PySem.W.subIn K (.ref (He.ga K "SizeMismatch")) (.ref (He.ga K "SizeMismatch")) = some true) ∧ (PySem.W.subIn K (.ref (He.ga K "SizeMismatch")) (.ref (He.ga K "BadSize")) = some false) ∧ (PySem.W.subIn K (.ref (He.ga K "SizeMismatch")) (.ref (He.ga K "BadTable")) = some false) := by
  unfold hdB10 at h
  obtain ⟨h0, h⟩ := He.ba h
  obtain ⟨h1, h⟩ := He.ba h
  obtain ⟨h2, h⟩ := He.ba h
  obtain ⟨h3, h⟩ := He.ba h
  obtain ⟨h4, h⟩ := He.ba h
  obtain ⟨h5, h⟩ := He.ba h
  obtain ⟨h6, h⟩ := He.ba h
  obtain ⟨h7, h⟩ := He.ba h
  obtain ⟨h8, h⟩ := He.ba h
  obtain ⟨h9, h⟩ := He.ba h
  obtain ⟨h10, h⟩ := He.ba h
  obtain ⟨h11, h⟩ := He.ba h
  obtain ⟨h12, h⟩ := He.ba h
  obtain ⟨h13, h⟩ := He.ba h
  obtain ⟨h14, h⟩ := He.ba h
  obtain ⟨h15, h⟩ := He.ba h
  obtain ⟨h16, h⟩ := He.ba h
  obtain ⟨h17, h⟩ := He.ba h
  obtain ⟨h18, h⟩ := He.ba h
  exact ⟨He.eqO_ok h0, of_decide_eq_true h1, h2, of_decide_eq_true h3, of_decide_eq_true h4, He.eqO_ok h5, Hd.file_ok h6, Hd.cell_ok h7, He.eqO_ok h8, of_decide_eq_true h9, He.eqO_ok h10, He.eqO_ok h11, He.eqO_ok h12, He.eqO_ok h13, h14, He.eqO_ok h15, of_decide_eq_true h16, of_decide_eq_true h17, of_decide_eq_true h18, of_decide_eq_true h⟩
theorem hdT11 {K : PySem.W.Frag} (h : hdB11 K = true) : (PySem.W.subIn K (.ref (He.ga K "SizeMismatch")) (.ref (He.ga K "UnknownWord")) = some false) ∧ (PySem.W.subIn K (.ref (He.ga K "SizeMismatch")) (.ref (He.ga K "BadCount")) = some false) ∧ (PySem.W.subIn K (.ref (He.ga K "SizeMismatch")) (.ref (He.ga K "BadPerson")) = some false) ∧ (PySem.W.subIn K (.ref (He.ga K "SizeMismatch")) (.ref (He.ga K "BadLetter")) = some false) ∧ (PySem.W.subIn K (.ref (He.ga K "SizeMismatch")) (.ref (He.ga K "UnknownPerson")) = some false) ∧ (PySem.W.subIn K (.ref (He.ga K "SizeMismatch")) (.ref (He.ga K "TooMany")) = some false) ∧ (PySem.W.subIn K (.ref (He.ga K "SizeMismatch")) (.ref (He.ga K "BadPattern")) = some false) ∧ (PySem.W.subIn K (.ref (He.ga K "SizeMismatch")) (.ref (He.ga K "SameWord")) = some false) ∧ (PySem.W.subIn K (.ref (He.ga K "SizeMismatch")) (.ref (He.ga K "UnknownClue")) = some false) ∧ (PySem.W.subIn K (.ref (He.ga K "SizeMismatch")) (.ref (He.ga K "BadPlace")) = some false) ∧ (PySem.W.subIn K (.ref (He.ga K "SizeMismatch")) (.ref (He.ga K "TooLong")) = some false) ∧ (PySem.W.subIn K (.ref (He.ga K "SizeMismatch")) (.ref (He.ga K "Melted")) = some false) ∧ (PySem.W.subIn K (.ref (He.ga K "SizeMismatch")) (.ref (He.ga K "NothingToUndo")) = some false) ∧ (PySem.W.subIn K (.ref (He.ga K "SizeMismatch")) (.ref (He.ga K "NothingToRedo")) = some false) ∧ (PySem.W.subIn K (.ref (He.ga K "SizeMismatch")) (.ref (He.ga K "Refused")) = some false) ∧ (PySem.W.subIn K (.ref (He.ga K "SizeMismatch")) (.ref (He.ga K "BadLine")) = some false) ∧ (PySem.W.subIn K (.ref (He.ga K "SizeMismatch")) (.ref (He.ga K "MurmurError")) = some true) ∧ (∃ nm q N bs bm sn sub ab col dd k0 k1 k2 k3 k5, K.lookup (He.ga K "BadCount") = some (excClassObj nm q (He.ga K "BadCount") N bs bm true sn sub ab col dd k0 k1 k2 k3 k5 "ValueError.__new__") ∧ PySem.HandSPX.refsVE bm = true) ∧ (PySem.W.findIn K (.ref (He.ga K "BadCount")) "__setattr__" = some (some (.builtin "object.__setattr__"))) ∧ (PySem.W.subIn K (.ref (He.ga K "BadCount")) (.type "BaseException") = some true) := by
  unfold hdB11 at h
  obtain ⟨h0, h⟩ := He.ba h
  obtain ⟨h1, h⟩ := He.ba h
  obtain ⟨h2, h⟩ := He.ba h
  obtain ⟨h3, h⟩ := He.ba h
  obtain ⟨h4, h⟩ := He.ba h
  obtain ⟨h5, h⟩ := He.ba h
  obtain ⟨h6, h⟩ := He.ba h
  obtain ⟨h7, h⟩ := He.ba h
  obtain ⟨h8, h⟩ := He.ba h
  obtain ⟨h9, h⟩ := He.ba h
  obtain ⟨h10, h⟩ := He.ba h
  obtain ⟨h11, h⟩ := He.ba h
  obtain ⟨h12, h⟩ := He.ba h
  obtain ⟨h13, h⟩ := He.ba h
  obtain ⟨h14, h⟩ := He.ba h
  obtain ⟨h15, h⟩ := He.ba h
  obtain ⟨h16, h⟩ := He.ba h
  obtain ⟨h17, h⟩ := He.ba h
  obtain ⟨h18, h⟩ := He.ba h
  exact ⟨of_decide_eq_true h0, of_decide_eq_true h1, of_decide_eq_true h2, of_decide_eq_true h3, of_decide_eq_true h4, of_decide_eq_true h5, of_decide_eq_true h6, of_decide_eq_true h7, of_decide_eq_true h8, of_decide_eq_true h9, of_decide_eq_true h10, of_decide_eq_true h11, of_decide_eq_true h12, of_decide_eq_true h13, of_decide_eq_true h14, of_decide_eq_true h15, of_decide_eq_true h16, Hd.ec_ok h17, He.eqO_ok h18, of_decide_eq_true h⟩
theorem hdT12 {K : PySem.W.Frag} (h : hdB12 K = true) : (PySem.W.keepIn K (.ref (He.ga K "BadCount")) = true) ∧ (PySem.W.mroIn K (He.ga K "BadCount") (.ref (He.ga K "BadCount")) = some true) ∧ (PySem.W.subIn K (.ref (He.ga K "BadCount")) (.type "ValueError") = some true) ∧ (PySem.W.ks_superIn K (He.ga K "BadCount") (He.ga K "BadCount") "__init__" = some (some (.builtin "ValueError.__init__"))) ∧ (∃ ek ew ev er ef eg, K.lookup (Hd.codeOf K (He.ma K (He.ga K "BadCount") "__init__")) = some ⟨ek, ew, .fields ev, er⟩ ∧ ev[2]? = some (.str ef eg) ∧ (((PySem.Challenge.rw_murmurline_k77_whole_family_of_errors).prog.main.file : Str) == ef) = true) ∧ (∃ el eu eq, K.lookup (Hd.cellOf K (He.ma K (He.ga K "BadCount") "__init__")) = some ⟨el, eu, .cell (some (.ref (He.ga K "BadCount"))), eq⟩) ∧ (PySem.W.findIn K (.ref (He.ga K "BadCount")) "__init__" = some (some (.ref (He.ma K (He.ga K "BadCount") "__init__")))) ∧ (PySem.W.typeIn K (.ref (He.ma K (He.ga K "BadCount") "__init__")) = some (.type "function")) ∧ (PySem.W.findIn K (.ref (He.ga K "BadCount")) "count" = some none) ∧ (PySem.W.findIn K (.ref (He.ga K "BadCount")) "__getattribute__" = some (some (.builtin "BaseException.__getattribute__"))) ∧ (PySem.W.findIn K (.ref (He.ga K "BadCount")) "__getattr__" = some none) ∧ (PySem.W.hasDictIn K (He.ga K "BadCount") = true) ∧ (PySem.W.findIn K (.ref (He.ga K "BadCount")) "__class__" = some (some (.builtin "object.__class__"))) ∧ (PySem.W.mroIn K (He.ga K "BadCount") (.type "object") = some true) ∧ (PySem.W.subIn K (.ref (He.ga K "BadCount")) (.ref (He.ga K "BadCount")) = some true) ∧ (PySem.W.subIn K (.ref (He.ga K "BadCount")) (.ref (He.ga K "BadSize")) = some false) ∧ (PySem.W.subIn K (.ref (He.ga K "BadCount")) (.ref (He.ga K "BadTable")) = some false) ∧ (PySem.W.subIn K (.ref (He.ga K "BadCount")) (.ref (He.ga K "UnknownWord")) = some false) ∧ (PySem.W.subIn K (.ref (He.ga K "BadCount")) (.ref (He.ga K "SizeMismatch")) = some false) ∧ (PySem.W.subIn K (.ref (He.ga K "BadCount")) (.ref (He.ga K "BadPerson")) = some false) := by
  unfold hdB12 at h
  obtain ⟨h0, h⟩ := He.ba h
  obtain ⟨h1, h⟩ := He.ba h
  obtain ⟨h2, h⟩ := He.ba h
  obtain ⟨h3, h⟩ := He.ba h
  obtain ⟨h4, h⟩ := He.ba h
  obtain ⟨h5, h⟩ := He.ba h
  obtain ⟨h6, h⟩ := He.ba h
  obtain ⟨h7, h⟩ := He.ba h
  obtain ⟨h8, h⟩ := He.ba h
  obtain ⟨h9, h⟩ := He.ba h
  obtain ⟨h10, h⟩ := He.ba h
  obtain ⟨h11, h⟩ := He.ba h
  obtain ⟨h12, h⟩ := He.ba h
  obtain ⟨h13, h⟩ := He.ba h
  obtain ⟨h14, h⟩ := He.ba h
  obtain ⟨h15, h⟩ := He.ba h
  obtain ⟨h16, h⟩ := He.ba h
  obtain ⟨h17, h⟩ := He.ba h
  obtain ⟨h18, h⟩ := He.ba h
  exact ⟨h0, of_decide_eq_true h1, of_decide_eq_true h2, He.eqO_ok h3, Hd.file_ok h4, Hd.cell_ok h5, He.eqO_ok h6, of_decide_eq_true h7, He.eqO_ok h8, He.eqO_ok h9, He.eqO_ok h10, h11, He.eqO_ok h12, of_decide_eq_true h13, of_decide_eq_true h14, of_decide_eq_true h15, of_decide_eq_true h16, of_decide_eq_true h17, of_decide_eq_true h18, of_decide_eq_true h⟩
theorem hdT13 {K : PySem.W.Frag} (h : hdB13 K = true) : (PySem.W.subIn K (.ref (He.ga K "BadCount")) (.ref (He.ga K "BadLetter")) = some false) ∧ (PySem.W.subIn K (.ref (He.ga K "BadCount")) (.ref (He.ga K "UnknownPerson")) = some false) ∧ (PySem.W.subIn K (.ref (He.ga K "BadCount")) (.ref (He.ga K "TooMany")) = some false) ∧ (PySem.W.subIn K (.ref (He.ga K "BadCount")) (.ref (He.ga K "BadPattern")) = some false) ∧ (PySem.W.subIn K (.ref (He.ga K "BadCount")) (.ref (He.ga K "SameWord")) = some false) ∧ (PySem.W.subIn K (.ref (He.ga K "BadCount")) (.ref (He.ga K "UnknownClue")) = some false) ∧ (PySem.W.subIn K (.ref (He.ga K "BadCount")) (.ref (He.ga K "BadPlace")) = some false) ∧ (PySem.W.subIn K (.ref (He.ga K "BadCount")) (.ref (He.ga K "TooLong")) = some false) ∧ (PySem.W.subIn K (.ref (He.ga K "BadCount")) (.ref (He.ga K "Melted")) = some false) ∧ (PySem.W.subIn K (.ref (He.ga K "BadCount")) (.ref (He.ga K "NothingToUndo")) = some false) ∧ (PySem.W.subIn K (.ref (He.ga K "BadCount")) (.ref (He.ga K "NothingToRedo")) = some false) ∧ (PySem.W.subIn K (.ref (He.ga K "BadCount")) (.ref (He.ga K "Refused")) = some false) ∧ (PySem.W.subIn K (.ref (He.ga K "BadCount")) (.ref (He.ga K "BadLine")) = some false) ∧ (PySem.W.subIn K (.ref (He.ga K "BadCount")) (.ref (He.ga K "MurmurError")) = some true) ∧ (∃ nm q N bs bm sn sub ab col dd k0 k1 k2 k3 k5, K.lookup (He.ga K "BadPerson") = some (excClassObj nm q (He.ga K "BadPerson") N bs bm true sn sub ab col dd k0 k1 k2 k3 k5 "ValueError.__new__") ∧ PySem.HandSPX.refsVE bm = true) ∧ (PySem.W.findIn K (.ref (He.ga K "BadPerson")) "__setattr__" = some (some (.builtin "object.__setattr__"))) ∧ (PySem.W.subIn K (.ref (He.ga K "BadPerson")) (.type "BaseException") = some true) ∧ (PySem.W.keepIn K (.ref (He.ga K "BadPerson")) = true) ∧ (PySem.W.mroIn K (He.ga K "BadPerson") (.ref (He.ga K "BadPerson")) = some true) ∧ (PySem.W.subIn K (.ref (He.ga K "BadPerson")) (.type "ValueError") = some true) := by
  unfold hdB13 at h
  obtain ⟨h0, h⟩ := He.ba h
  obtain ⟨h1, h⟩ := He.ba h
  obtain ⟨h2, h⟩ := He.ba h
  obtain ⟨h3, h⟩ := He.ba h
  obtain ⟨h4, h⟩ := He.ba h
  obtain ⟨h5, h⟩ := He.ba h
  obtain ⟨h6, h⟩ := He.ba h
  obtain ⟨h7, h⟩ := He.ba h
  obtain ⟨h8, h⟩ := He.ba h
  obtain ⟨h9, h⟩ := He.ba h
  obtain ⟨h10, h⟩ := He.ba h
  obtain ⟨h11, h⟩ := He.ba h
  obtain ⟨h12, h⟩ := He.ba h
  obtain ⟨h13, h⟩ := He.ba h
  obtain ⟨h14, h⟩ := He.ba h
  obtain ⟨h15, h⟩ := He.ba h
  obtain ⟨h16, h⟩ := He.ba h
  obtain ⟨h17, h⟩ := He.ba h
  obtain ⟨h18, h⟩ := He.ba h
  exact ⟨of_decide_eq_true h0, of_decide_eq_true h1, of_decide_eq_true h2, of_decide_eq_true h3, of_decide_eq_true h4, of_decide_eq_true h5, of_decide_eq_true h6, of_decide_eq_true h7, of_decide_eq_true h8, of_decide_eq_true h9, of_decide_eq_true h10, of_decide_eq_true h11, of_decide_eq_true h12, of_decide_eq_true h13, Hd.ec_ok h14, He.eqO_ok h15, of_decide_eq_true h16, h17, of_decide_eq_true h18, of_decide_eq_true h⟩
theorem hdT14 {K : PySem.W.Frag} (h : hdB14 K = true) : (PySem.W.ks_superIn K (He.ga K "BadPerson") (He.ga K "BadPerson") "__init__" = some (some (.builtin "ValueError.__init__"))) ∧ (∃ ek ew ev er ef eg, K.lookup (Hd.codeOf K (He.ma K (He.ga K "BadPerson") "__init__")) = some ⟨ek, ew, .fields ev, er⟩ ∧ ev[2]? = some (.str ef eg) ∧ (((PySem.Challenge.rw_murmurline_k77_whole_family_of_errors).prog.main.file : Str) == ef) = true) ∧ (∃ el eu eq, K.lookup (Hd.cellOf K (He.ma K (He.ga K "BadPerson") "__init__")) = some ⟨el, eu, .cell (some (.ref (He.ga K "BadPerson"))), eq⟩) ∧ (PySem.W.findIn K (.ref (He.ga K "BadPerson")) "__init__" = some (some (.ref (He.ma K (He.ga K "BadPerson") "__init__")))) ∧ (PySem.W.typeIn K (.ref (He.ma K (He.ga K "BadPerson") "__init__")) = some (.type "function")) ∧ (PySem.W.findIn K (.ref (He.ga K "BadPerson")) "part" = some none) ∧ (PySem.W.findIn K (.ref (He.ga K "BadPerson")) "__getattribute__" = some (some (.builtin "BaseException.__getattribute__"))) ∧ (PySem.W.findIn K (.ref (He.ga K "BadPerson")) "__getattr__" = some none) ∧ (PySem.W.hasDictIn K (He.ga K "BadPerson") = true) ∧ (PySem.W.findIn K (.ref (He.ga K "BadPerson")) "__class__" = some (some (.builtin "object.__class__"))) ∧ (PySem.W.mroIn K (He.ga K "BadPerson") (.type "object") = some true) ∧ (PySem.W.subIn K (.ref (He.ga K "BadPerson")) (.ref (He.ga K "BadPerson")) = some true) ∧ (PySem.W.subIn K (.ref (He.ga K "BadPerson")) (.ref (He.ga K "BadSize")) = some false) ∧ (PySem.W.subIn K (.ref (He.ga K "BadPerson")) (.ref (He.ga K "BadTable")) = some false) ∧ (PySem.W.subIn K (.ref (He.ga K "BadPerson")) (.ref (He.ga K "UnknownWord")) = some false) ∧ (PySem.W.subIn K (.ref (He.ga K "BadPerson")) (.ref (He.ga K "SizeMismatch")) = some false) ∧ (PySem.W.subIn K (.ref (He.ga K "BadPerson")) (.ref (He.ga K "BadCount")) = some false) ∧ (PySem.W.subIn K (.ref (He.ga K "BadPerson")) (.ref (He.ga K "BadLetter")) = some false) ∧ (PySem.W.subIn K (.ref (He.ga K "BadPerson")) (.ref (He.ga K "UnknownPerson")) = some false) ∧ (PySem.W.subIn K (.ref (He.ga K "BadPerson")) (.ref (He.ga K "TooMany")) = some false) := by
  unfold hdB14 at h
  obtain ⟨h0, h⟩ := He.ba h
  obtain ⟨h1, h⟩ := He.ba h
  obtain ⟨h2, h⟩ := He.ba h
  obtain ⟨h3, h⟩ := He.ba h
  obtain ⟨h4, h⟩ := He.ba h
  obtain ⟨h5, h⟩ := He.ba h
  obtain ⟨h6, h⟩ := He.ba h
  obtain ⟨h7, h⟩ := He.ba h
  obtain ⟨h8, h⟩ := He.ba h
  obtain ⟨h9, h⟩ := He.ba h
  obtain ⟨h10, h⟩ := He.ba h
  obtain ⟨h11, h⟩ := He.ba h
  obtain ⟨h12, h⟩ := He.ba h
  obtain ⟨h13, h⟩ := He.ba h
  obtain ⟨h14, h⟩ := He.ba h
  obtain ⟨h15, h⟩ := He.ba h
  obtain ⟨h16, h⟩ := He.ba h
  obtain ⟨h17, h⟩ := He.ba h
  obtain ⟨h18, h⟩ := He.ba h
  exact ⟨He.eqO_ok h0, Hd.file_ok h1, Hd.cell_ok h2, He.eqO_ok h3, of_decide_eq_true h4, He.eqO_ok h5, He.eqO_ok h6, He.eqO_ok h7, h8, He.eqO_ok h9, of_decide_eq_true h10, of_decide_eq_true h11, of_decide_eq_true h12, of_decide_eq_true h13, of_decide_eq_true h14, of_decide_eq_true h15, of_decide_eq_true h16, of_decide_eq_true h17, of_decide_eq_true h18, of_decide_eq_true h⟩
theorem hdT15 {K : PySem.W.Frag} (h : hdB15 K = true) : (PySem.W.subIn K (.ref (He.ga K "BadPerson")) (.ref (He.ga K "BadPattern")) = some false) ∧ (PySem.W.subIn K (.ref (He.ga K "BadPerson")) (.ref (He.ga K "SameWord")) = some false) ∧ (PySem.W.subIn K (.ref (He.ga K "BadPerson")) (.ref (He.ga K "UnknownClue")) = some false) ∧ (PySem.W.subIn K (.ref (He.ga K "BadPerson")) (.ref (He.ga K "BadPlace")) = some false) ∧ (PySem.W.subIn K (.ref (He.ga K "BadPerson")) (.ref (He.ga K "TooLong")) = some false) ∧ (PySem.W.subIn K (.ref (He.ga K "BadPerson")) (.ref (He.ga K "Melted")) = some false) ∧ (PySem.W.subIn K (.ref (He.ga K "BadPerson")) (.ref (He.ga K "NothingToUndo")) = some false) ∧ (PySem.W.subIn K (.ref (He.ga K "BadPerson")) (.ref (He.ga K "NothingToRedo")) = some false) ∧ (PySem.W.subIn K (.ref (He.ga K "BadPerson")) (.ref (He.ga K "Refused")) = some false) ∧ (PySem.W.subIn K (.ref (He.ga K "BadPerson")) (.ref (He.ga K "BadLine")) = some false) ∧ (PySem.W.subIn K (.ref (He.ga K "BadPerson")) (.ref (He.ga K "MurmurError")) = some true) ∧ (∃ nm q N bs bm sn sub ab col dd k0 k1 k2 k3 k5, K.lookup (He.ga K "BadLetter") = some (excClassObj nm q (He.ga K "BadLetter") N bs bm true sn sub ab col dd k0 k1 k2 k3 k5 "ValueError.__new__") ∧ PySem.HandSPX.refsVE bm = true) ∧ (PySem.W.findIn K (.ref (He.ga K "BadLetter")) "__setattr__" = some (some (.builtin "object.__setattr__"))) ∧ (PySem.W.subIn K (.ref (He.ga K "BadLetter")) (.type "BaseException") = some true) ∧ (PySem.W.keepIn K (.ref (He.ga K "BadLetter")) = true) ∧ (PySem.W.mroIn K (He.ga K "BadLetter") (.ref (He.ga K "BadLetter")) = some true) ∧ (PySem.W.subIn K (.ref (He.ga K "BadLetter")) (.type "ValueError") = some true) ∧ (PySem.W.ks_superIn K (He.ga K "BadLetter") (He.ga K "BadLetter") "__init__" = some (some (.builtin "ValueError.__init__"))) ∧ (∃ ek ew ev er ef eg, K.lookup (Hd.codeOf K (He.ma K (He.ga K "BadLetter") "__init__")) = some ⟨ek, ew, .fields ev, er⟩ ∧ ev[2]? = some (.str ef eg) ∧ (((PySem.Challenge.rw_murmurline_k77_whole_family_of_errors).prog.main.file : Str) == ef) = true) ∧ (∃ el eu eq, K.lookup (Hd.cellOf K (He.ma K (He.ga K "BadLetter") "__init__")) = some ⟨el, eu, .cell (some (.ref (He.ga K "BadLetter"))), eq⟩) := by
  unfold hdB15 at h
  obtain ⟨h0, h⟩ := He.ba h
  obtain ⟨h1, h⟩ := He.ba h
  obtain ⟨h2, h⟩ := He.ba h
  obtain ⟨h3, h⟩ := He.ba h
  obtain ⟨h4, h⟩ := He.ba h
  obtain ⟨h5, h⟩ := He.ba h
  obtain ⟨h6, h⟩ := He.ba h
  obtain ⟨h7, h⟩ := He.ba h
  obtain ⟨h8, h⟩ := He.ba h
  obtain ⟨h9, h⟩ := He.ba h
  obtain ⟨h10, h⟩ := He.ba h
  obtain ⟨h11, h⟩ := He.ba h
  obtain ⟨h12, h⟩ := He.ba h
  obtain ⟨h13, h⟩ := He.ba h
  obtain ⟨h14, h⟩ := He.ba h
  obtain ⟨h15, h⟩ := He.ba h
  obtain ⟨h16, h⟩ := He.ba h
  obtain ⟨h17, h⟩ := He.ba h
  obtain ⟨h18, h⟩ := He.ba h
  exact ⟨of_decide_eq_true h0, of_decide_eq_true h1, of_decide_eq_true h2, of_decide_eq_true h3, of_decide_eq_true h4, of_decide_eq_true h5, of_decide_eq_true h6, of_decide_eq_true h7, of_decide_eq_true h8, of_decide_eq_true h9, of_decide_eq_true h10, Hd.ec_ok h11, He.eqO_ok h12, of_decide_eq_true h13, h14, of_decide_eq_true h15, of_decide_eq_true h16, He.eqO_ok h17, Hd.file_ok h18, Hd.cell_ok h⟩
theorem hdT16 {K : PySem.W.Frag} (h : hdB16 K = true) : (PySem.W.findIn K (.ref (He.ga K "BadLetter")) "__init__" = some (some (.ref (He.ma K (He.ga K "BadLetter") "__init__")))) ∧ (PySem.W.typeIn K (.ref (He.ma K (He.ga K "BadLetter") "__init__")) = some (.type "function")) ∧ (PySem.W.findIn K (.ref (He.ga K "BadLetter")) "letter" = some none) ∧ (PySem.W.findIn K (.ref (He.ga K "BadLetter")) "__getattribute__" = some (some (.builtin "BaseException.__getattribute__"))) ∧ (PySem.W.findIn K (.ref (He.ga K "BadLetter")) "__getattr__" = some none) ∧ (PySem.W.hasDictIn K (He.ga K "BadLetter") = true) ∧ (PySem.W.findIn K (.ref (He.ga K "BadLetter")) "__class__" = some (some (.builtin "object.__class__"))) ∧ (PySem.W.mroIn K (He.ga K "BadLetter") (.type "object") = some true) ∧ (PySem.W.subIn K (.ref (He.ga K "BadLetter")) (.ref (He.ga K "BadLetter")) = some true) ∧ (PySem.W.subIn K (.ref (He.ga K "BadLetter")) (.ref (He.ga K "BadSize")) = some false) ∧ (PySem.W.subIn K (.ref (He.ga K "BadLetter")) (.ref (He.ga K "BadTable")) = some false) ∧ (PySem.W.subIn K (.ref (He.ga K "BadLetter")) (.ref (He.ga K "UnknownWord")) = some false) ∧ (PySem.W.subIn K (.ref (He.ga K "BadLetter")) (.ref (He.ga K "SizeMismatch")) = some false) ∧ (PySem.W.subIn K (.ref (He.ga K "BadLetter")) (.ref (He.ga K "BadCount")) = some false) ∧ (PySem.W.subIn K (.ref (He.ga K "BadLetter")) (.ref (He.ga K "BadPerson")) = some false) ∧ (PySem.W.subIn K (.ref (He.ga K "BadLetter")) (.ref (He.ga K "UnknownPerson")) = some false) ∧ (PySem.W.subIn K (.ref (He.ga K "BadLetter")) (.ref (He.ga K "TooMany")) = some false) ∧ (PySem.W.subIn K (.ref (He.ga K "BadLetter")) (.ref (He.ga K "BadPattern")) = some false) ∧ (PySem.W.subIn K (.ref (He.ga K "BadLetter")) (.ref (He.ga K "SameWord")) = some false) ∧ (PySem.W.subIn K (.ref (He.ga K "BadLetter")) (.ref (He.ga K "UnknownClue")) = some false) := by
  unfold hdB16 at h
  obtain ⟨h0, h⟩ := He.ba h
  obtain ⟨h1, h⟩ := He.ba h
  obtain ⟨h2, h⟩ := He.ba h
  obtain ⟨h3, h⟩ := He.ba h
  obtain ⟨h4, h⟩ := He.ba h
  obtain ⟨h5, h⟩ := He.ba h
  obtain ⟨h6, h⟩ := He.ba h
  obtain ⟨h7, h⟩ := He.ba h
  obtain ⟨h8, h⟩ := He.ba h
  obtain ⟨h9, h⟩ := He.ba h
  obtain ⟨h10, h⟩ := He.ba h
  obtain ⟨h11, h⟩ := He.ba h
  obtain ⟨h12, h⟩ := He.ba h
  obtain ⟨h13, h⟩ := He.ba h
  obtain ⟨h14, h⟩ := He.ba h
  obtain ⟨h15, h⟩ := He.ba h
  obtain ⟨h16, h⟩ := He.ba h
  obtain ⟨h17, h⟩ := He.ba h
  obtain ⟨h18, h⟩ := He.ba h
  exact ⟨He.eqO_ok h0, of_decide_eq_true h1, He.eqO_ok h2, He.eqO_ok h3, He.eqO_ok h4, h5, He.eqO_ok h6, of_decide_eq_true h7, of_decide_eq_true h8, of_decide_eq_true h9, of_decide_eq_true h10, of_decide_eq_true h11, of_decide_eq_true h12, of_decide_eq_true h13, of_decide_eq_true h14, of_decide_eq_true h15, of_decide_eq_true h16, of_decide_eq_true h17, of_decide_eq_true h18, of_decide_eq_true h⟩
theorem hdT17 {K : PySem.W.Frag} (h : hdB17 K = true) : (PySem.W.subIn K (.ref (He.ga K "BadLetter")) (.ref (He.ga K "BadPlace")) = some false) ∧ (PySem.W.subIn K (.ref (He.ga K "BadLetter")) (.ref (He.ga K "TooLong")) = some false) ∧ (PySem.W.subIn K (.ref (He.ga K "BadLetter")) (.ref (He.ga K "Melted")) = some false) ∧ (PySem.W.subIn K (.ref (He.ga K "BadLetter")) (.ref (He.ga K "NothingToUndo")) = some false) ∧ (PySem.W.subIn K (.ref (He.ga K "BadLetter")) (.ref (He.ga K "NothingToRedo")) = some false) ∧ (PySem.W.subIn K (.ref (He.ga K "BadLetter")) (.ref (He.ga K "Refused")) = some false) ∧ (PySem.W.subIn K (.ref (He.ga K "BadLetter")) (.ref (He.ga K "BadLine")) = some false) ∧ (PySem.W.subIn K (.ref (He.ga K "BadLetter")) (.ref (He.ga K "MurmurError")) = some true) ∧ (∃ nm q N bs bm sn sub ab col dd k0 k1 k2 k3 k5, K.lookup (He.ga K "UnknownPerson") = some (excClassObj nm q (He.ga K "UnknownPerson") N bs bm true sn sub ab col dd k0 k1 k2 k3 k5 "ValueError.__new__") ∧ PySem.HandSPX.refsVE bm = true) ∧ (PySem.W.findIn K (.ref (He.ga K "UnknownPerson")) "__setattr__" = some (some (.builtin "object.__setattr__"))) ∧ (PySem.W.subIn K (.ref (He.ga K "UnknownPerson")) (.type "BaseException") = some true) ∧ (PySem.W.keepIn K (.ref (He.ga K "UnknownPerson")) = true) ∧ (PySem.W.mroIn K (He.ga K "UnknownPerson") (.ref (He.ga K "UnknownPerson")) = some true) ∧ (PySem.W.subIn K (.ref (He.ga K "UnknownPerson")) (.type "ValueError") = some true) ∧ (PySem.W.ks_superIn K (He.ga K "UnknownPerson") (He.ga K "UnknownPerson") "__init__" = some (some (.builtin "ValueError.__init__"))) ∧ (∃ ek ew ev er ef eg, K.lookup (Hd.codeOf K (He.ma K (He.ga K "UnknownPerson") "__init__")) = some ⟨ek, ew, .fields ev, er⟩ ∧ ev[2]? = some (.str ef eg) ∧ (((PySem.Challenge.rw_murmurline_k77_whole_family_of_errors).prog.main.file : Str) == ef) = true) ∧ (∃ el eu eq, K.lookup (Hd.cellOf K (He.ma K (He.ga K "UnknownPerson") "__init__")) = some ⟨el, eu, .cell (some (.ref (He.ga K "UnknownPerson"))), eq⟩) ∧ (PySem.W.findIn K (.ref (He.ga K "UnknownPerson")) "__init__" = some (some (.ref (He.ma K (He.ga K "UnknownPerson") "__init__")))) ∧ (PySem.W.typeIn K (.ref (He.ma K (He.ga K "UnknownPerson") "__init__")) = some (.type "function")) ∧ (PySem.W.findIn K (.ref (He.ga K "UnknownPerson")) "letter" = some none) := by
  unfold hdB17 at h
  obtain ⟨h0, h⟩ := He.ba h
  obtain ⟨h1, h⟩ := He.ba h
  obtain ⟨h2, h⟩ := He.ba h
  obtain ⟨h3, h⟩ := He.ba h
  obtain ⟨h4, h⟩ := He.ba h
  obtain ⟨h5, h⟩ := He.ba h
  obtain ⟨h6, h⟩ := He.ba h
  obtain ⟨h7, h⟩ := He.ba h
  obtain ⟨h8, h⟩ := He.ba h
  obtain ⟨h9, h⟩ := He.ba h
  obtain ⟨h10, h⟩ := He.ba h
  obtain ⟨h11, h⟩ := He.ba h
  obtain ⟨h12, h⟩ := He.ba h
  obtain ⟨h13, h⟩ := He.ba h
  obtain ⟨h14, h⟩ := He.ba h
  obtain ⟨h15, h⟩ := He.ba h
  obtain ⟨h16, h⟩ := He.ba h
  obtain ⟨h17, h⟩ := He.ba h
  obtain ⟨h18, h⟩ := He.ba h
  exact ⟨of_decide_eq_true h0, of_decide_eq_true h1, of_decide_eq_true h2, of_decide_eq_true h3, of_decide_eq_true h4, of_decide_eq_true h5, of_decide_eq_true h6, of_decide_eq_true h7, Hd.ec_ok h8, He.eqO_ok h9, of_decide_eq_true h10, h11, of_decide_eq_true h12, of_decide_eq_true h13, He.eqO_ok h14, Hd.file_ok h15, Hd.cell_ok h16, He.eqO_ok h17, of_decide_eq_true h18, He.eqO_ok h⟩
theorem hdT18 {K : PySem.W.Frag} (h : hdB18 K = true) : (PySem.W.findIn K (.ref (He.ga K "UnknownPerson")) "place" = some none) ∧ (PySem.W.findIn K (.ref (He.ga K "UnknownPerson")) "__getattribute__" = some (some (.builtin "BaseException.__getattribute__"))) ∧ (PySem.W.findIn K (.ref (He.ga K "UnknownPerson")) "__getattr__" = some none) ∧ (PySem.W.hasDictIn K (He.ga K "UnknownPerson") = true) ∧ (PySem.W.findIn K (.ref (He.ga K "UnknownPerson")) "__class__" = some (some (.builtin "object.__class__"))) ∧ (PySem.W.mroIn K (He.ga K "UnknownPerson") (.type "object") = some true) ∧ (PySem.W.subIn K (.ref (He.ga K "UnknownPerson")) (.ref (He.ga K "UnknownPerson")) = some true) ∧ (PySem.W.subIn K (.ref (He.ga K "UnknownPerson")) (.ref (He.ga K "BadSize")) = some false) ∧ (PySem.W.subIn K (.ref (He.ga K "UnknownPerson")) (.ref (He.ga K "BadTable")) = some false) ∧ (PySem.W.subIn K (.ref (He.ga K "UnknownPerson")) (.ref (He.ga K "UnknownWord")) = some false) ∧ (PySem.W.subIn K (.ref (He.ga K "UnknownPerson")) (.ref (He.ga K "SizeMismatch")) = some false) ∧ (PySem.W.subIn K (.ref (He.ga K "UnknownPerson")) (.ref (He.ga K "BadCount")) = some false) ∧ (PySem.W.subIn K (.ref (He.ga K "UnknownPerson")) (.ref (He.ga K "BadPerson")) = some false) ∧ (PySem.W.subIn K (.ref (He.ga K "UnknownPerson")) (.ref (He.ga K "BadLetter")) = some false) ∧ (PySem.W.subIn K (.ref (He.ga K "UnknownPerson")) (.ref (He.ga K "TooMany")) = some false) ∧ (PySem.W.subIn K (.ref (He.ga K "UnknownPerson")) (.ref (He.ga K "BadPattern")) = some false) ∧ (PySem.W.subIn K (.ref (He.ga K "UnknownPerson")) (.ref (He.ga K "SameWord")) = some false) ∧ (PySem.W.subIn K (.ref (He.ga K "UnknownPerson")) (.ref (He.ga K "UnknownClue")) = some false) ∧ (PySem.W.subIn K (.ref (He.ga K "UnknownPerson")) (.ref (He.ga K "BadPlace")) = some false) ∧ (PySem.W.subIn K (.ref (He.ga K "UnknownPerson")) (.ref (He.ga K "TooLong")) = some false) := by
  unfold hdB18 at h
  obtain ⟨h0, h⟩ := He.ba h
  obtain ⟨h1, h⟩ := He.ba h
  obtain ⟨h2, h⟩ := He.ba h
  obtain ⟨h3, h⟩ := He.ba h
  obtain ⟨h4, h⟩ := He.ba h
  obtain ⟨h5, h⟩ := He.ba h
  obtain ⟨h6, h⟩ := He.ba h
  obtain ⟨h7, h⟩ := He.ba h
  obtain ⟨h8, h⟩ := He.ba h
  obtain ⟨h9, h⟩ := He.ba h
  obtain ⟨h10, h⟩ := He.ba h
  obtain ⟨h11, h⟩ := He.ba h
  obtain ⟨h12, h⟩ := He.ba h
  obtain ⟨h13, h⟩ := He.ba h
  obtain ⟨h14, h⟩ := He.ba h
  obtain ⟨h15, h⟩ := He.ba h
  obtain ⟨h16, h⟩ := He.ba h
  obtain ⟨h17, h⟩ := He.ba h
  obtain ⟨h18, h⟩ := He.ba h
  exact ⟨He.eqO_ok h0, He.eqO_ok h1, He.eqO_ok h2, h3, He.eqO_ok h4, of_decide_eq_true h5, of_decide_eq_true h6, of_decide_eq_true h7, of_decide_eq_true h8, of_decide_eq_true h9, of_decide_eq_true h10, of_decide_eq_true h11, of_decide_eq_true h12, of_decide_eq_true h13, of_decide_eq_true h14, of_decide_eq_true h15, of_decide_eq_true h16, of_decide_eq_true h17, of_decide_eq_true h18, of_decide_eq_true h⟩
theorem hdT19 {K : PySem.W.Frag} (h : hdB19 K = true) : (PySem.W.subIn K (.ref (He.ga K "UnknownPerson")) (.ref (He.ga K "Melted")) = some false) ∧ (PySem.W.subIn K (.ref (He.ga K "UnknownPerson")) (.ref (He.ga K "NothingToUndo")) = some false) ∧ (PySem.W.subIn K (.ref (He.ga K "UnknownPerson")) (.ref (He.ga K "NothingToRedo")) = some false) ∧ (PySem.W.subIn K (.ref (He.ga K "UnknownPerson")) (.ref (He.ga K "Refused")) = some false) ∧ (PySem.W.subIn K (.ref (He.ga K "UnknownPerson")) (.ref (He.ga K "BadLine")) = some false) ∧ (PySem.W.subIn K (.ref (He.ga K "UnknownPerson")) (.ref (He.ga K "MurmurError")) = some true) ∧ (∃ nm q N bs bm sn sub ab col dd k0 k1 k2 k3 k5, K.lookup (He.ga K "TooMany") = some (excClassObj nm q (He.ga K "TooMany") N bs bm true sn sub ab col dd k0 k1 k2 k3 k5 "ValueError.__new__") ∧ PySem.HandSPX.refsVE bm = true) ∧ (PySem.W.findIn K (.ref (He.ga K "TooMany")) "__setattr__" = some (some (.builtin "object.__setattr__"))) ∧ (PySem.W.subIn K (.ref (He.ga K "TooMany")) (.type "BaseException") = some true) ∧ (PySem.W.keepIn K (.ref (He.ga K "TooMany")) = true) ∧ (PySem.W.mroIn K (He.ga K "TooMany") (.ref (He.ga K "TooMany")) = some true) ∧ (PySem.W.subIn K (.ref (He.ga K "TooMany")) (.type "ValueError") = some true) ∧ (PySem.W.ks_superIn K (He.ga K "TooMany") (He.ga K "TooMany") "__init__" = some (some (.builtin "ValueError.__init__"))) ∧ (∃ ek ew ev er ef eg, K.lookup (Hd.codeOf K (He.ma K (He.ga K "TooMany") "__init__")) = some ⟨ek, ew, .fields ev, er⟩ ∧ ev[2]? = some (.str ef eg) ∧ (((PySem.Challenge.rw_murmurline_k77_whole_family_of_errors).prog.main.file : Str) == ef) = true) ∧ (∃ el eu eq, K.lookup (Hd.cellOf K (He.ma K (He.ga K "TooMany") "__init__")) = some ⟨el, eu, .cell (some (.ref (He.ga K "TooMany"))), eq⟩) ∧ (PySem.W.findIn K (.ref (He.ga K "TooMany")) "__init__" = some (some (.ref (He.ma K (He.ga K "TooMany") "__init__")))) ∧ (PySem.W.typeIn K (.ref (He.ma K (He.ga K "TooMany") "__init__")) = some (.type "function")) ∧ (PySem.W.findIn K (.ref (He.ga K "TooMany")) "limit" = some none) ∧ (PySem.W.findIn K (.ref (He.ga K "TooMany")) "__getattribute__" = some (some (.builtin "BaseException.__getattribute__"))) ∧ (PySem.W.findIn K (.ref (He.ga K "TooMany")) "__getattr__" = some none) := by
  unfold hdB19 at h
  obtain ⟨h0, h⟩ := He.ba h
  obtain ⟨h1, h⟩ := He.ba h
  obtain ⟨h2, h⟩ := He.ba h
  obtain ⟨h3, h⟩ := He.ba h
  obtain ⟨h4, h⟩ := He.ba h
  obtain ⟨h5, h⟩ := He.ba h
  obtain ⟨h6, h⟩ := He.ba h
  obtain ⟨h7, h⟩ := He.ba h
  obtain ⟨h8, h⟩ := He.ba h
  obtain ⟨h9, h⟩ := He.ba h
  obtain ⟨h10, h⟩ := He.ba h
  obtain ⟨h11, h⟩ := He.ba h
  obtain ⟨h12, h⟩ := He.ba h
  obtain ⟨h13, h⟩ := He.ba h
  obtain ⟨h14, h⟩ := He.ba h
  obtain ⟨h15, h⟩ := He.ba h
  obtain ⟨h16, h⟩ := He.ba h
  obtain ⟨h17, h⟩ := He.ba h
  obtain ⟨h18, h⟩ := He.ba h
  exact ⟨of_decide_eq_true h0, of_decide_eq_true h1, of_decide_eq_true h2, of_decide_eq_true h3, of_decide_eq_true h4, of_decide_eq_true h5, Hd.ec_ok h6, He.eqO_ok h7, of_decide_eq_true h8, h9, of_decide_eq_true h10, of_decide_eq_true h11, He.eqO_ok h12, Hd.file_ok h13, Hd.cell_ok h14, He.eqO_ok h15, of_decide_eq_true h16, He.eqO_ok h17, He.eqO_ok h18, He.eqO_ok h⟩
theorem hdT20 {K : PySem.W.Frag} (h : hdB20 K = true) : (PySem.W.hasDictIn K (He.ga K "TooMany") = true) ∧ (PySem.W.findIn K (.ref (He.ga K "TooMany")) "__class__" = some (some (.builtin "object.__class__"))) ∧ (PySem.W.mroIn K (He.ga K "TooMany") (.type "object") = some true) ∧ (PySem.W.subIn K (.ref (He.ga K "TooMany")) (.ref (He.ga K "TooMany")) = some true) ∧ (PySem.W.subIn K (.ref (He.ga K "TooMany")) (.ref (He.ga K "BadSize")) = some false) ∧ (PySem.W.subIn K (.ref (He.ga K "TooMany")) (.ref (He.ga K "BadTable")) = some false) ∧ (PySem.W.subIn K (.ref (He.ga K "TooMany")) (.ref (He.ga K "UnknownWord")) = some false) ∧ (PySem.W.subIn K (.ref (He.ga K "TooMany")) (.ref (He.ga K "SizeMismatch")) = some false) ∧ (PySem.W.subIn K (.ref (He.ga K "TooMany")) (.ref (He.ga K "BadCount")) = some false) ∧ (PySem.W.subIn K (.ref (He.ga K "TooMany")) (.ref (He.ga K "BadPerson")) = some false) ∧ (PySem.W.subIn K (.ref (He.ga K "TooMany")) (.ref (He.ga K "BadLetter")) = some false) ∧ (PySem.W.subIn K (.ref (He.ga K "TooMany")) (.ref (He.ga K "UnknownPerson")) = some false) ∧ (PySem.W.subIn K (.ref (He.ga K "TooMany")) (.ref (He.ga K "BadPattern")) = some false) ∧ (PySem.W.subIn K (.ref (He.ga K "TooMany")) (.ref (He.ga K "SameWord")) = some false) ∧ (PySem.W.subIn K (.ref (He.ga K "TooMany")) (.ref (He.ga K "UnknownClue")) = some false) ∧ (PySem.W.subIn K (.ref (He.ga K "TooMany")) (.ref (He.ga K "BadPlace")) = some false) ∧ (PySem.W.subIn K (.ref (He.ga K "TooMany")) (.ref (He.ga K "TooLong")) = some false) ∧ (PySem.W.subIn K (.ref (He.ga K "TooMany")) (.ref (He.ga K "Melted")) = some false) ∧ (PySem.W.subIn K (.ref (He.ga K "TooMany")) (.ref (He.ga K "NothingToUndo")) = some false) ∧ (PySem.W.subIn K (.ref (He.ga K "TooMany")) (.ref (He.ga K "NothingToRedo")) = some false) := by
  unfold hdB20 at h
  obtain ⟨h0, h⟩ := He.ba h
  obtain ⟨h1, h⟩ := He.ba h
  obtain ⟨h2, h⟩ := He.ba h
  obtain ⟨h3, h⟩ := He.ba h
  obtain ⟨h4, h⟩ := He.ba h
  obtain ⟨h5, h⟩ := He.ba h
  obtain ⟨h6, h⟩ := He.ba h
  obtain ⟨h7, h⟩ := He.ba h
  obtain ⟨h8, h⟩ := He.ba h
  obtain ⟨h9, h⟩ := He.ba h
  obtain ⟨h10, h⟩ := He.ba h
  obtain ⟨h11, h⟩ := He.ba h
  obtain ⟨h12, h⟩ := He.ba h
  obtain ⟨h13, h⟩ := He.ba h
  obtain ⟨h14, h⟩ := He.ba h
  obtain ⟨h15, h⟩ := He.ba h
  obtain ⟨h16, h⟩ := He.ba h
  obtain ⟨h17, h⟩ := He.ba h
  obtain ⟨h18, h⟩ := He.ba h
  exact ⟨h0, He.eqO_ok h1, of_decide_eq_true h2, of_decide_eq_true h3, of_decide_eq_true h4, of_decide_eq_true h5, of_decide_eq_true h6, of_decide_eq_true h7, of_decide_eq_true h8, of_decide_eq_true h9, of_decide_eq_true h10, of_decide_eq_true h11, of_decide_eq_true h12, of_decide_eq_true h13, of_decide_eq_true h14, of_decide_eq_true h15, of_decide_eq_true h16, of_decide_eq_true h17, of_decide_eq_true h18, of_decide_eq_true h⟩
theorem hdT21 {K : PySem.W.Frag} (h : hdB21 K = true) : (PySem.W.subIn K (.ref (He.ga K "TooMany")) (.ref (He.ga K "Refused")) = some false) ∧ (PySem.W.subIn K (.ref (He.ga K "TooMany")) (.ref (He.ga K "BadLine")) = some false) ∧ (PySem.W.subIn K (.ref (He.ga K "TooMany")) (.ref (He.ga K "MurmurError")) = some true) ∧ (∃ nm q N bs bm sn sub ab col dd k0 k1 k2 k3 k5, K.lookup (He.ga K "BadPattern") = some (excClassObj nm q (He.ga K "BadPattern") N bs bm true sn sub ab col dd k0 k1 k2 k3 k5 "ValueError.__new__") ∧ PySem.HandSPX.refsVE bm = true) ∧ (PySem.W.findIn K (.ref (He.ga K "BadPattern")) "__setattr__" = some (some (.builtin "object.__setattr__"))) ∧ (PySem.W.subIn K (.ref (He.ga K "BadPattern")) (.type "BaseException") = some true) ∧ (PySem.W.keepIn K (.ref (He.ga K "BadPattern")) = true) ∧ (PySem.W.mroIn K (He.ga K "BadPattern") (.ref (He.ga K "BadPattern")) = some true) ∧ (PySem.W.subIn K (.ref (He.ga K "BadPattern")) (.type "ValueError") = some true) ∧ (PySem.W.ks_superIn K (He.ga K "BadPattern") (He.ga K "BadPattern") "__init__" = some (some (.builtin "ValueError.__init__"))) ∧ (∃ ek ew ev er ef eg, K.lookup (Hd.codeOf K (He.ma K (He.ga K "BadPattern") "__init__")) = some ⟨ek, ew, .fields ev, er⟩ ∧ ev[2]? = some (.str ef eg) ∧ (((PySem.Challenge.rw_murmurline_k77_whole_family_of_errors).prog.main.file : Str) == ef) = true) ∧ (∃ el eu eq, K.lookup (Hd.cellOf K (He.ma K (He.ga K "BadPattern") "__init__")) = some ⟨el, eu, .cell (some (.ref (He.ga K "BadPattern"))), eq⟩) ∧ (PySem.W.findIn K (.ref (He.ga K "BadPattern")) "__init__" = some (some (.ref (He.ma K (He.ga K "BadPattern") "__init__")))) ∧ (PySem.W.typeIn K (.ref (He.ma K (He.ga K "BadPattern") "__init__")) = some (.type "function")) ∧ (PySem.W.findIn K (.ref (He.ga K "BadPattern")) "place" = some none) ∧ (PySem.W.findIn K (.ref (He.ga K "BadPattern")) "__getattribute__" = some (some (.builtin "BaseException.__getattribute__"))) ∧ (PySem.W.findIn K (.ref (He.ga K "BadPattern")) "__getattr__" = some none) ∧ (PySem.W.hasDictIn K (He.ga K "BadPattern") = true) ∧ (PySem.W.findIn K (.ref (He.ga K "BadPattern")) "__class__" = some (some (.builtin "object.__class__"))) ∧ (PySem.W.mroIn K (He.ga K "BadPattern") (.type "object") = some true) := by
  unfold hdB21 at h
  obtain ⟨h0, h⟩ := He.ba h
  obtain ⟨h1, h⟩ := He.ba h
  obtain ⟨h2, h⟩ := He.ba h
  obtain ⟨h3, h⟩ := He.ba h
  obtain ⟨h4, h⟩ := He.ba h
  obtain ⟨h5, h⟩ := He.ba h
  obtain ⟨h6, h⟩ := He.ba h
  obtain ⟨h7, h⟩ := He.ba h
  obtain ⟨h8, h⟩ := He.ba h
  obtain ⟨h9, h⟩ := He.ba h
  obtain ⟨h10, h⟩ := He.ba h
  obtain ⟨h11, h⟩ := He.ba h
  obtain ⟨h12, h⟩ := He.ba h
  obtain ⟨h13, h⟩ := He.ba h
  obtain ⟨h14, h⟩ := He.ba h
  obtain ⟨h15, h⟩ := He.ba h
  obtain ⟨h16, h⟩ := He.ba h
  obtain ⟨h17, h⟩ := He.ba h
  obtain ⟨h18, h⟩ := He.ba h
  exact ⟨of_decide_eq_true h0, of_decide_eq_true h1, of_decide_eq_true h2, Hd.ec_ok h3, He.eqO_ok h4, of_decide_eq_true h5, h6, of_decide_eq_true h7, of_decide_eq_true h8, He.eqO_ok h9, Hd.file_ok h10, Hd.cell_ok h11, He.eqO_ok h12, of_decide_eq_true h13, He.eqO_ok h14, He.eqO_ok h15, He.eqO_ok h16, h17, He.eqO_ok h18, of_decide_eq_true h⟩
theorem hdT22 {K : PySem.W.Frag} (h : hdB22 K = true) : (PySem.W.subIn K (.ref (He.ga K "BadPattern")) (.ref (He.ga K "BadPattern")) = some true) ∧ (PySem.W.subIn K (.ref (He.ga K "BadPattern")) (.ref (He.ga K "BadSize")) = some false) ∧ (PySem.W.subIn K (.ref (He.ga K "BadPattern")) (.ref (He.ga K "BadTable")) = some false) ∧ (PySem.W.subIn K (.ref (He.ga K "BadPattern")) (.ref (He.ga K "UnknownWord")) = some false) ∧ (PySem.W.subIn K (.ref (He.ga K "BadPattern")) (.ref (He.ga K "SizeMismatch")) = some false) ∧ (PySem.W.subIn K (.ref (He.ga K "BadPattern")) (.ref (He.ga K "BadCount")) = some false) ∧ (PySem.W.subIn K (.ref (He.ga K "BadPattern")) (.ref (He.ga K "BadPerson")) = some false) ∧ (PySem.W.subIn K (.ref (He.ga K "BadPattern")) (.ref (He.ga K "BadLetter")) = some false) ∧ (PySem.W.subIn K (.ref (He.ga K "BadPattern")) (.ref (He.ga K "UnknownPerson")) = some false) ∧ (PySem.W.subIn K (.ref (He.ga K "BadPattern")) (.ref (He.ga K "TooMany")) = some false) ∧ (PySem.W.subIn K (.ref (He.ga K "BadPattern")) (.ref (He.ga K "SameWord")) = some false) ∧ (PySem.W.subIn K (.ref (He.ga K "BadPattern")) (.ref (He.ga K "UnknownClue")) = some false) ∧ (PySem.W.subIn K (.ref (He.ga K "BadPattern")) (.ref (He.ga K "BadPlace")) = some false) ∧ (PySem.W.subIn K (.ref (He.ga K "BadPattern")) (.ref (He.ga K "TooLong")) = some false) ∧ (PySem.W.subIn K (.ref (He.ga K "BadPattern")) (.ref (He.ga K "Melted")) = some false) ∧ (PySem.W.subIn K (.ref (He.ga K "BadPattern")) (.ref (He.ga K "NothingToUndo")) = some false) ∧ (PySem.W.subIn K (.ref (He.ga K "BadPattern")) (.ref (He.ga K "NothingToRedo")) = some false) ∧ (PySem.W.subIn K (.ref (He.ga K "BadPattern")) (.ref (He.ga K "Refused")) = some false) ∧ (PySem.W.subIn K (.ref (He.ga K "BadPattern")) (.ref (He.ga K "BadLine")) = some false) ∧ (PySem.W.subIn K (.ref (He.ga K "BadPattern")) (.ref (He.ga K "MurmurError")) = some true) := by
  unfold hdB22 at h
  obtain ⟨h0, h⟩ := He.ba h
  obtain ⟨h1, h⟩ := He.ba h
  obtain ⟨h2, h⟩ := He.ba h
  obtain ⟨h3, h⟩ := He.ba h
  obtain ⟨h4, h⟩ := He.ba h
  obtain ⟨h5, h⟩ := He.ba h
  obtain ⟨h6, h⟩ := He.ba h
  obtain ⟨h7, h⟩ := He.ba h
  obtain ⟨h8, h⟩ := He.ba h
  obtain ⟨h9, h⟩ := He.ba h
  obtain ⟨h10, h⟩ := He.ba h
  obtain ⟨h11, h⟩ := He.ba h
  obtain ⟨h12, h⟩ := He.ba h
  obtain ⟨h13, h⟩ := He.ba h
  obtain ⟨h14, h⟩ := He.ba h
  obtain ⟨h15, h⟩ := He.ba h
  obtain ⟨h16, h⟩ := He.ba h
  obtain ⟨h17, h⟩ := He.ba h
  obtain ⟨h18, h⟩ := He.ba h
  exact ⟨of_decide_eq_true h0, of_decide_eq_true h1, of_decide_eq_true h2, of_decide_eq_true h3, of_decide_eq_true h4, of_decide_eq_true h5, of_decide_eq_true h6, of_decide_eq_true h7, of_decide_eq_true h8, of_decide_eq_true h9, of_decide_eq_true h10, of_decide_eq_true h11, of_decide_eq_true h12, of_decide_eq_true h13, of_decide_eq_true h14, of_decide_eq_true h15, of_decide_eq_true h16, of_decide_eq_true h17, of_decide_eq_true h18, of_decide_eq_true h⟩
theorem hdT23 {K : PySem.W.Frag} (h : hdB23 K = true) : (∃ nm q N bs bm sn sub ab col dd k0 k1 k2 k3 k5, K.lookup (He.ga K "SameWord") = some (excClassObj nm q (He.ga K "SameWord") N bs bm true sn sub ab col dd k0 k1 k2 k3 k5 "ValueError.__new__") ∧ PySem.HandSPX.refsVE bm = true) ∧ (PySem.W.findIn K (.ref (He.ga K "SameWord")) "__setattr__" = some (some (.builtin "object.__setattr__"))) ∧ (PySem.W.subIn K (.ref (He.ga K "SameWord")) (.type "BaseException") = some true) ∧ (PySem.W.keepIn K (.ref (He.ga K "SameWord")) = true) ∧ (PySem.W.mroIn K (He.ga K "SameWord") (.ref (He.ga K "SameWord")) = some true) ∧ (PySem.W.subIn K (.ref (He.ga K "SameWord")) (.type "ValueError") = some true) ∧ (PySem.W.ks_superIn K (He.ga K "SameWord") (He.ga K "SameWord") "__init__" = some (some (.builtin "ValueError.__init__"))) ∧ (∃ ek ew ev er ef eg, K.lookup (Hd.codeOf K (He.ma K (He.ga K "SameWord") "__init__")) = some ⟨ek, ew, .fields ev, er⟩ ∧ ev[2]? = some (.str ef eg) ∧ (((PySem.Challenge.rw_murmurline_k77_whole_family_of_errors).prog.main.file : Str) == ef) = true) ∧ (∃ el eu eq, K.lookup (Hd.cellOf K (He.ma K (He.ga K "SameWord") "__init__")) = some ⟨el, eu, .cell (some (.ref (He.ga K "SameWord"))), eq⟩) ∧ (PySem.W.findIn K (.ref (He.ga K "SameWord")) "__init__" = some (some (.ref (He.ma K (He.ga K "SameWord") "__init__")))) ∧ (PySem.W.typeIn K (.ref (He.ma K (He.ga K "SameWord") "__init__")) = some (.type "function")) ∧ (PySem.W.findIn K (.ref (He.ga K "SameWord")) "word" = some none) ∧ (PySem.W.findIn K (.ref (He.ga K "SameWord")) "__getattribute__" = some (some (.builtin "BaseException.__getattribute__"))) ∧ (PySem.W.findIn K (.ref (He.ga K "SameWord")) "__getattr__" = some none) ∧ (PySem.W.hasDictIn K (He.ga K "SameWord") = true) ∧ (PySem.W.findIn K (.ref (He.ga K "SameWord")) "__class__" = some (some (.builtin "object.__class__"))) ∧ (PySem.W.mroIn K (He.ga K "SameWord") (.type "object") = some true) ∧ (PySem.W.subIn K (.ref (He.ga K "SameWord")) (.ref (He.ga K "SameWord")) = some true) ∧ (PySem.W.subIn K (.ref (He.ga K "SameWord")) (.ref (He.ga K "BadSize")) = some false) ∧ (PySem.W.subIn K (.ref (He.ga K "SameWord")) (.ref (He.ga K "BadTable")) = some false) := by
  unfold hdB23 at h
  obtain ⟨h0, h⟩ := He.ba h
  obtain ⟨h1, h⟩ := He.ba h
  obtain ⟨h2, h⟩ := He.ba h
  obtain ⟨h3, h⟩ := He.ba h
  obtain ⟨h4, h⟩ := He.ba h
  obtain ⟨h5, h⟩ := He.ba h
  obtain ⟨h6, h⟩ := He.ba h
  obtain ⟨h7, h⟩ := He.ba h
  obtain ⟨h8, h⟩ := He.ba h
  obtain ⟨h9, h⟩ := He.ba h
  obtain ⟨h10, h⟩ := He.ba h
  obtain ⟨h11, h⟩ := He.ba h
  obtain ⟨h12, h⟩ := He.ba h
  obtain ⟨h13, h⟩ := He.ba h
  obtain ⟨h14, h⟩ := He.ba h
  obtain ⟨h15, h⟩ := He.ba h
  obtain ⟨h16, h⟩ := He.ba h
  obtain ⟨h17, h⟩ := He.ba h
  obtain ⟨h18, h⟩ := He.ba h
  exact ⟨Hd.ec_ok h0, He.eqO_ok h1, of_decide_eq_true h2, h3, of_decide_eq_true h4, of_decide_eq_true h5, He.eqO_ok h6, Hd.file_ok h7, Hd.cell_ok h8, He.eqO_ok h9, of_decide_eq_true h10, He.eqO_ok h11, He.eqO_ok h12, He.eqO_ok h13, h14, He.eqO_ok h15, of_decide_eq_true h16, of_decide_eq_true h17, of_decide_eq_true h18, of_decide_eq_true h⟩
theorem hdT24 {K : PySem.W.Frag} (h : hdB24 K = true) : (PySem.W.subIn K (.ref (He.ga K "SameWord")) (.ref (He.ga K "UnknownWord")) = some false) ∧ (PySem.W.subIn K (.ref (He.ga K "SameWord")) (.ref (He.ga K "SizeMismatch")) = some false) ∧ (PySem.W.subIn K (.ref (He.ga K "SameWord")) (.ref (He.ga K "BadCount")) = some false) ∧ (PySem.W.subIn K (.ref (He.ga K "SameWord")) (.ref (He.ga K "BadPerson")) = some false) ∧ (PySem.W.subIn K (.ref (He.ga K "SameWord")) (.ref (He.ga K "BadLetter")) = some false) ∧ (PySem.W.subIn K (.ref (He.ga K "SameWord")) (.ref (He.ga K "UnknownPerson")) = some false) ∧ (PySem.W.subIn K (.ref (He.ga K "SameWord")) (.ref (He.ga K "TooMany")) = some false) ∧ (PySem.W.subIn K (.ref (He.ga K "SameWord")) (.ref (He.ga K "BadPattern")) = some false) ∧ (PySem.W.subIn K (.ref (He.ga K "SameWord")) (.ref (He.ga K "UnknownClue")) = some false) ∧ (PySem.W.subIn K (.ref (He.ga K "SameWord")) (.ref (He.ga K "BadPlace")) = some false) ∧ (PySem.W.subIn K (.ref (He.ga K "SameWord")) (.ref (He.ga K "TooLong")) = some false) ∧ (PySem.W.subIn K (.ref (He.ga K "SameWord")) (.ref (He.ga K "Melted")) = some false) ∧ (PySem.W.subIn K (.ref (He.ga K "SameWord")) (.ref (He.ga K "NothingToUndo")) = some false) ∧ (PySem.W.subIn K (.ref (He.ga K "SameWord")) (.ref (He.ga K "NothingToRedo")) = some false) ∧ (PySem.W.subIn K (.ref (He.ga K "SameWord")) (.ref (He.ga K "Refused")) = some false) ∧ (PySem.W.subIn K (.ref (He.ga K "SameWord")) (.ref (He.ga K "BadLine")) = some false) ∧ (PySem.W.subIn K (.ref (He.ga K "SameWord")) (.ref (He.ga K "MurmurError")) = some true) ∧ (∃ nm q N bs bm sn sub ab col dd k0 k1 k2 k3 k5, K.lookup (He.ga K "UnknownClue") = some (excClassObj nm q (He.ga K "UnknownClue") N bs bm true sn sub ab col dd k0 k1 k2 k3 k5 "ValueError.__new__") ∧ PySem.HandSPX.refsVE bm = true) ∧ (PySem.W.findIn K (.ref (He.ga K "UnknownClue")) "__setattr__" = some (some (.builtin "object.__setattr__"))) ∧ (PySem.W.subIn K (.ref (He.ga K "UnknownClue")) (.type "BaseException") = some true) := by
  unfold hdB24 at h
  obtain ⟨h0, h⟩ := He.ba h
  obtain ⟨h1, h⟩ := He.ba h
  obtain ⟨h2, h⟩ := He.ba h
  obtain ⟨h3, h⟩ := He.ba h
  obtain ⟨h4, h⟩ := He.ba h
  obtain ⟨h5, h⟩ := He.ba h
  obtain ⟨h6, h⟩ := He.ba h
  obtain ⟨h7, h⟩ := He.ba h
  obtain ⟨h8, h⟩ := He.ba h
  obtain ⟨h9, h⟩ := He.ba h
  obtain ⟨h10, h⟩ := He.ba h
  obtain ⟨h11, h⟩ := He.ba h
  obtain ⟨h12, h⟩ := He.ba h
  obtain ⟨h13, h⟩ := He.ba h
  obtain ⟨h14, h⟩ := He.ba h
  obtain ⟨h15, h⟩ := He.ba h
  obtain ⟨h16, h⟩ := He.ba h
  obtain ⟨h17, h⟩ := He.ba h
  obtain ⟨h18, h⟩ := He.ba h
  exact ⟨of_decide_eq_true h0, of_decide_eq_true h1, of_decide_eq_true h2, of_decide_eq_true h3, of_decide_eq_true h4, of_decide_eq_true h5, of_decide_eq_true h6, of_decide_eq_true h7, of_decide_eq_true h8, of_decide_eq_true h9, of_decide_eq_true h10, of_decide_eq_true h11, of_decide_eq_true h12, of_decide_eq_true h13, of_decide_eq_true h14, of_decide_eq_true h15, of_decide_eq_true h16, Hd.ec_ok h17, He.eqO_ok h18, of_decide_eq_true h⟩
theorem hdT25 {K : PySem.W.Frag} (h : hdB25 K = true) : (PySem.W.keepIn K (.ref (He.ga K "UnknownClue")) = true) ∧ (PySem.W.mroIn K (He.ga K "UnknownClue") (.ref (He.ga K "UnknownClue")) = some true) ∧ (PySem.W.subIn K (.ref (He.ga K "UnknownClue")) (.type "ValueError") = some true) ∧ (PySem.W.ks_superIn K (He.ga K "UnknownClue") (He.ga K "UnknownClue") "__init__" = some (some (.builtin "ValueError.__init__"))) ∧ (∃ ek ew ev er ef eg, K.lookup (Hd.codeOf K (He.ma K (He.ga K "UnknownClue") "__init__")) = some ⟨ek, ew, .fields ev, er⟩ ∧ ev[2]? = some (.str ef eg) ∧ (((PySem.Challenge.rw_murmurline_k77_whole_family_of_errors).prog.main.file : Str) == ef) = true) ∧ (∃ el eu eq, K.lookup (Hd.cellOf K (He.ma K (He.ga K "UnknownClue") "__init__")) = some ⟨el, eu, .cell (some (.ref (He.ga K "UnknownClue"))), eq⟩) ∧ (PySem.W.findIn K (.ref (He.ga K "UnknownClue")) "__init__" = some (some (.ref (He.ma K (He.ga K "UnknownClue") "__init__")))) ∧ (PySem.W.typeIn K (.ref (He.ma K (He.ga K "UnknownClue") "__init__")) = some (.type "function")) ∧ (PySem.W.findIn K (.ref (He.ga K "UnknownClue")) "number" = some none) ∧ (PySem.W.findIn K (.ref (He.ga K "UnknownClue")) "__getattribute__" = some (some (.builtin "BaseException.__getattribute__"))) ∧ (PySem.W.findIn K (.ref (He.ga K "UnknownClue")) "__getattr__" = some none) ∧ (PySem.W.hasDictIn K (He.ga K "UnknownClue") = true) ∧ (PySem.W.findIn K (.ref (He.ga K "UnknownClue")) "__class__" = some (some (.builtin "object.__class__"))) ∧ (PySem.W.mroIn K (He.ga K "UnknownClue") (.type "object") = some true) ∧ (PySem.W.subIn K (.ref (He.ga K "UnknownClue")) (.ref (He.ga K "UnknownClue")) = some true) ∧ (PySem.W.subIn K (.ref (He.ga K "UnknownClue")) (.ref (He.ga K "BadSize")) = some false) ∧ (PySem.W.subIn K (.ref (He.ga K "UnknownClue")) (.ref (He.ga K "BadTable")) = some false) ∧ (PySem.W.subIn K (.ref (He.ga K "UnknownClue")) (.ref (He.ga K "UnknownWord")) = some false) ∧ (PySem.W.subIn K (.ref (He.ga K "UnknownClue")) (.ref (He.ga K "SizeMismatch")) = some false) ∧ (PySem.W.subIn K (.ref (He.ga K "UnknownClue")) (.ref (He.ga K "BadCount")) = some false) := by
  unfold hdB25 at h
  obtain ⟨h0, h⟩ := He.ba h
  obtain ⟨h1, h⟩ := He.ba h
  obtain ⟨h2, h⟩ := He.ba h
  obtain ⟨h3, h⟩ := He.ba h
  obtain ⟨h4, h⟩ := He.ba h
  obtain ⟨h5, h⟩ := He.ba h
  obtain ⟨h6, h⟩ := He.ba h
  obtain ⟨h7, h⟩ := He.ba h
  obtain ⟨h8, h⟩ := He.ba h
  obtain ⟨h9, h⟩ := He.ba h
  obtain ⟨h10, h⟩ := He.ba h
  obtain ⟨h11, h⟩ := He.ba h
  obtain ⟨h12, h⟩ := He.ba h
  obtain ⟨h13, h⟩ := He.ba h
  obtain ⟨h14, h⟩ := He.ba h
  obtain ⟨h15, h⟩ := He.ba h
  obtain ⟨h16, h⟩ := He.ba h
  obtain ⟨h17, h⟩ := He.ba h
  obtain ⟨h18, h⟩ := He.ba h
  exact ⟨h0, of_decide_eq_true h1, of_decide_eq_true h2, He.eqO_ok h3, Hd.file_ok h4, Hd.cell_ok h5, He.eqO_ok h6, of_decide_eq_true h7, He.eqO_ok h8, He.eqO_ok h9, He.eqO_ok h10, h11, He.eqO_ok h12, of_decide_eq_true h13, of_decide_eq_true h14, of_decide_eq_true h15, of_decide_eq_true h16, of_decide_eq_true h17, of_decide_eq_true h18, of_decide_eq_true h⟩
theorem hdT26 {K : PySem.W.Frag} (h : hdB26 K = true) : (PySem.W.subIn K (.ref (He.ga K "UnknownClue")) (.ref (He.ga K "BadPerson")) = some false) ∧ (PySem.W.subIn K (.ref (He.ga K "UnknownClue")) (.ref (He.ga K "BadLetter")) = some false) ∧ (PySem.W.subIn K (.ref (He.ga K "UnknownClue")) (.ref (He.ga K "UnknownPerson")) = some false) ∧ (PySem.W.subIn K (.ref (He.ga K "UnknownClue")) (.ref (He.ga K "TooMany")) = some false) ∧ (PySem.W.subIn K (.ref (He.ga K "UnknownClue")) (.ref (He.ga K "BadPattern")) = some false) ∧ (PySem.W.subIn K (.ref (He.ga K "UnknownClue")) (.ref (He.ga K "SameWord")) = some false) ∧ (PySem.W.subIn K (.ref (He.ga K "UnknownClue")) (.ref (He.ga K "BadPlace")) = some false) ∧ (PySem.W.subIn K (.ref (He.ga K "UnknownClue")) (.ref (He.ga K "TooLong")) = some false) ∧ (PySem.W.subIn K (.ref (He.ga K "UnknownClue")) (.ref (He.ga K "Melted")) = some false) ∧ (PySem.W.subIn K (.ref (He.ga K "UnknownClue")) (.ref (He.ga K "NothingToUndo")) = some false) ∧ (PySem.W.subIn K (.ref (He.ga K "UnknownClue")) (.ref (He.ga K "NothingToRedo")) = some false) ∧ (PySem.W.subIn K (.ref (He.ga K "UnknownClue")) (.ref (He.ga K "Refused")) = some false) ∧ (PySem.W.subIn K (.ref (He.ga K "UnknownClue")) (.ref (He.ga K "BadLine")) = some false) ∧ (PySem.W.subIn K (.ref (He.ga K "UnknownClue")) (.ref (He.ga K "MurmurError")) = some true) ∧ (∃ nm q N bs bm sn sub ab col dd k0 k1 k2 k3 k5, K.lookup (He.ga K "BadPlace") = some (excClassObj nm q (He.ga K "BadPlace") N bs bm true sn sub ab col dd k0 k1 k2 k3 k5 "ValueError.__new__") ∧ PySem.HandSPX.refsVE bm = true) ∧ (PySem.W.findIn K (.ref (He.ga K "BadPlace")) "__setattr__" = some (some (.builtin "object.__setattr__"))) ∧ (PySem.W.subIn K (.ref (He.ga K "BadPlace")) (.type "BaseException") = some true) ∧ (PySem.W.keepIn K (.ref (He.ga K "BadPlace")) = true) ∧ (PySem.W.mroIn K (He.ga K "BadPlace") (.ref (He.ga K "BadPlace")) = some true) ∧ (PySem.W.subIn K (.ref (He.ga K "BadPlace")) (.type "ValueError") = some true) := by
  unfold hdB26 at h
  obtain ⟨h0, h⟩ := He.ba h
  obtain ⟨h1, h⟩ := He.ba h
  obtain ⟨h2, h⟩ := He.ba h
  obtain ⟨h3, h⟩ := He.ba h
  obtain ⟨h4, h⟩ := He.ba h
  obtain ⟨h5, h⟩ := He.ba h
  obtain ⟨h6, h⟩ := He.ba h
  obtain ⟨h7, h⟩ := He.ba h
  obtain ⟨h8, h⟩ := He.ba h
  obtain ⟨h9, h⟩ := He.ba h
  obtain ⟨h10, h⟩ := He.ba h
  obtain ⟨h11, h⟩ := He.ba h
  obtain ⟨h12, h⟩ := He.ba h
  obtain ⟨h13, h⟩ := He.ba h
  obtain ⟨h14, h⟩ := He.ba h
  obtain ⟨h15, h⟩ := He.ba h
  obtain ⟨h16, h⟩ := He.ba h
  obtain ⟨h17, h⟩ := He.ba h
  obtain ⟨h18, h⟩ := He.ba h
  exact ⟨of_decide_eq_true h0, of_decide_eq_true h1, of_decide_eq_true h2, of_decide_eq_true h3, of_decide_eq_true h4, of_decide_eq_true h5, of_decide_eq_true h6, of_decide_eq_true h7, of_decide_eq_true h8, of_decide_eq_true h9, of_decide_eq_true h10, of_decide_eq_true h11, of_decide_eq_true h12, of_decide_eq_true h13, Hd.ec_ok h14, He.eqO_ok h15, of_decide_eq_true h16, h17, of_decide_eq_true h18, of_decide_eq_true h⟩
theorem hdT27 {K : PySem.W.Frag} (h : hdB27 K = true) : (PySem.W.ks_superIn K (He.ga K "BadPlace") (He.ga K "BadPlace") "__init__" = some (some (.builtin "ValueError.__init__"))) ∧ (∃ ek ew ev er ef eg, K.lookup (Hd.codeOf K (He.ma K (He.ga K "BadPlace") "__init__")) = some ⟨ek, ew, .fields ev, er⟩ ∧ ev[2]? = some (.str ef eg) ∧ (((PySem.Challenge.rw_murmurline_k77_whole_family_of_errors).prog.main.file : Str) == ef) = true) ∧ (∃ el eu eq, K.lookup (Hd.cellOf K (He.ma K (He.ga K "BadPlace") "__init__")) = some ⟨el, eu, .cell (some (.ref (He.ga K "BadPlace"))), eq⟩) ∧ (PySem.W.findIn K (.ref (He.ga K "BadPlace")) "__init__" = some (some (.ref (He.ma K (He.ga K "BadPlace") "__init__")))) ∧ (PySem.W.typeIn K (.ref (He.ma K (He.ga K "BadPlace") "__init__")) = some (.type "function")) ∧ (PySem.W.findIn K (.ref (He.ga K "BadPlace")) "place" = some none) ∧ (PySem.W.findIn K (.ref (He.ga K "BadPlace")) "__getattribute__" = some (some (.builtin "BaseException.__getattribute__"))) ∧ (PySem.W.findIn K (.ref (He.ga K "BadPlace")) "__getattr__" = some none) ∧ (PySem.W.hasDictIn K (He.ga K "BadPlace") = true) ∧ (PySem.W.findIn K (.ref (He.ga K "BadPlace")) "__class__" = some (some (.builtin "object.__class__"))) ∧ (PySem.W.mroIn K (He.ga K "BadPlace") (.type "object") = some true) ∧ (PySem.W.subIn K (.ref (He.ga K "BadPlace")) (.ref (He.ga K "BadPlace")) = some true) ∧ (PySem.W.subIn K (.ref (He.ga K "BadPlace")) (.ref (He.ga K "BadSize")) = some false) ∧ (PySem.W.subIn K (.ref (He.ga K "BadPlace")) (.ref (He.ga K "BadTable")) = some false) ∧ (PySem.W.subIn K (.ref (He.ga K "BadPlace")) (.ref (He.ga K "UnknownWord")) = some false) ∧ (PySem.W.subIn K (.ref (He.ga K "BadPlace")) (.ref (He.ga K "SizeMismatch")) = some false) ∧ (PySem.W.subIn K (.ref (He.ga K "BadPlace")) (.ref (He.ga K "BadCount")) = some false) ∧ (PySem.W.subIn K (.ref (He.ga K "BadPlace")) (.ref (He.ga K "BadPerson")) = some false) ∧ (PySem.W.subIn K (.ref (He.ga K "BadPlace")) (.ref (He.ga K "BadLetter")) = some false) ∧ (PySem.W.subIn K (.ref (He.ga K "BadPlace")) (.ref (He.ga K "UnknownPerson")) = some false) := by
  unfold hdB27 at h
  obtain ⟨h0, h⟩ := He.ba h
  obtain ⟨h1, h⟩ := He.ba h
  obtain ⟨h2, h⟩ := He.ba h
  obtain ⟨h3, h⟩ := He.ba h
  obtain ⟨h4, h⟩ := He.ba h
  obtain ⟨h5, h⟩ := He.ba h
  obtain ⟨h6, h⟩ := He.ba h
  obtain ⟨h7, h⟩ := He.ba h
  obtain ⟨h8, h⟩ := He.ba h
  obtain ⟨h9, h⟩ := He.ba h
  obtain ⟨h10, h⟩ := He.ba h
  obtain ⟨h11, h⟩ := He.ba h
  obtain ⟨h12, h⟩ := He.ba h
  obtain ⟨h13, h⟩ := He.ba h
  obtain ⟨h14, h⟩ := He.ba h
  obtain ⟨h15, h⟩ := He.ba h
  obtain ⟨h16, h⟩ := He.ba h
  obtain ⟨h17, h⟩ := He.ba h
  obtain ⟨h18, h⟩ := He.ba h
  exact ⟨He.eqO_ok h0, Hd.file_ok h1, Hd.cell_ok h2, He.eqO_ok h3, of_decide_eq_true h4, He.eqO_ok h5, He.eqO_ok h6, He.eqO_ok h7, h8, He.eqO_ok h9, of_decide_eq_true h10, of_decide_eq_true h11, of_decide_eq_true h12, of_decide_eq_true h13, of_decide_eq_true h14, of_decide_eq_true h15, of_decide_eq_true h16, of_decide_eq_true h17, of_decide_eq_true h18, of_decide_eq_true h⟩
theorem hdT28 {K : PySem.W.Frag} (h : hdB28 K = true) : (PySem.W.subIn K (.ref (He.ga K "BadPlace")) (.ref (He.ga K "TooMany")) = some false) ∧ (PySem.W.subIn K (.ref (He.ga K "BadPlace")) (.ref (He.ga K "BadPattern")) = some false) ∧ (PySem.W.subIn K (.ref (He.ga K "BadPlace")) (.ref (He.ga K "SameWord")) = some false) ∧ (PySem.W.subIn K (.ref (He.ga K "BadPlace")) (.ref (He.ga K "UnknownClue")) = some false) ∧ (PySem.W.subIn K (.ref (He.ga K "BadPlace")) (.ref (He.ga K "TooLong")) = some false) ∧ (PySem.W.subIn K (.ref (He.ga K "BadPlace")) (.ref (He.ga K "Melted")) = some false) ∧ (PySem.W.subIn K (.ref (He.ga K "BadPlace")) (.ref (He.ga K "NothingToUndo")) = some false) ∧ (PySem.W.subIn K (.ref (He.ga K "BadPlace")) (.ref (He.ga K "NothingToRedo")) = some false) ∧ (PySem.W.subIn K (.ref (He.ga K "BadPlace")) (.ref (He.ga K "Refused")) = some false) ∧ (PySem.W.subIn K (.ref (He.ga K "BadPlace")) (.ref (He.ga K "BadLine")) = some false) ∧ (PySem.W.subIn K (.ref (He.ga K "BadPlace")) (.ref (He.ga K "MurmurError")) = some true) ∧ (∃ nm q N bs bm sn sub ab col dd k0 k1 k2 k3 k5, K.lookup (He.ga K "TooLong") = some (excClassObj nm q (He.ga K "TooLong") N bs bm true sn sub ab col dd k0 k1 k2 k3 k5 "ValueError.__new__") ∧ PySem.HandSPX.refsVE bm = true) ∧ (PySem.W.findIn K (.ref (He.ga K "TooLong")) "__setattr__" = some (some (.builtin "object.__setattr__"))) ∧ (PySem.W.subIn K (.ref (He.ga K "TooLong")) (.type "BaseException") = some true) ∧ (PySem.W.keepIn K (.ref (He.ga K "TooLong")) = true) ∧ (PySem.W.mroIn K (He.ga K "TooLong") (.ref (He.ga K "TooLong")) = some true) ∧ (PySem.W.subIn K (.ref (He.ga K "TooLong")) (.type "ValueError") = some true) ∧ (PySem.W.ks_superIn K (He.ga K "TooLong") (He.ga K "TooLong") "__init__" = some (some (.builtin "ValueError.__init__"))) ∧ (∃ ek ew ev er ef eg, K.lookup (Hd.codeOf K (He.ma K (He.ga K "TooLong") "__init__")) = some ⟨ek, ew, .fields ev, er⟩ ∧ ev[2]? = some (.str ef eg) ∧ (((PySem.Challenge.rw_murmurline_k77_whole_family_of_errors).prog.main.file : Str) == ef) = true) ∧ (∃ el eu eq, K.lookup (Hd.cellOf K (He.ma K (He.ga K "TooLong") "__init__")) = some ⟨el, eu, .cell (some (.ref (He.ga K "TooLong"))), eq⟩) := by
  unfold hdB28 at h
  obtain ⟨h0, h⟩ := He.ba h
  obtain ⟨h1, h⟩ := He.ba h
  obtain ⟨h2, h⟩ := He.ba h
  obtain ⟨h3, h⟩ := He.ba h
  obtain ⟨h4, h⟩ := He.ba h
  obtain ⟨h5, h⟩ := He.ba h
  obtain ⟨h6, h⟩ := He.ba h
  obtain ⟨h7, h⟩ := He.ba h
  obtain ⟨h8, h⟩ := He.ba h
  obtain ⟨h9, h⟩ := He.ba h
  obtain ⟨h10, h⟩ := He.ba h
  obtain ⟨h11, h⟩ := He.ba h
  obtain ⟨h12, h⟩ := He.ba h
  obtain ⟨h13, h⟩ := He.ba h
  obtain ⟨h14, h⟩ := He.ba h
  obtain ⟨h15, h⟩ := He.ba h
  obtain ⟨h16, h⟩ := He.ba h
  obtain ⟨h17, h⟩ := He.ba h
  obtain ⟨h18, h⟩ := He.ba h
  exact ⟨of_decide_eq_true h0, of_decide_eq_true h1, of_decide_eq_true h2, of_decide_eq_true h3, of_decide_eq_true h4, of_decide_eq_true h5, of_decide_eq_true h6, of_decide_eq_true h7, of_decide_eq_true h8, of_decide_eq_true h9, of_decide_eq_true h10, Hd.ec_ok h11, He.eqO_ok h12, of_decide_eq_true h13, h14, of_decide_eq_true h15, of_decide_eq_true h16, He.eqO_ok h17, Hd.file_ok h18, Hd.cell_ok h⟩
theorem hdT29 {K : PySem.W.Frag} (h : hdB29 K = true) : (PySem.W.findIn K (.ref (He.ga K "TooLong")) "__init__" = some (some (.ref (He.ma K (He.ga K "TooLong") "__init__")))) ∧ (PySem.W.typeIn K (.ref (He.ma K (He.ga K "TooLong") "__init__")) = some (.type "function")) ∧ (PySem.W.findIn K (.ref (He.ga K "TooLong")) "limit" = some none) ∧ (PySem.W.findIn K (.ref (He.ga K "TooLong")) "__getattribute__" = some (some (.builtin "BaseException.__getattribute__"))) ∧ (PySem.W.findIn K (.ref (He.ga K "TooLong")) "__getattr__" = some none) ∧ (PySem.W.hasDictIn K (He.ga K "TooLong") = true) ∧ (PySem.W.findIn K (.ref (He.ga K "TooLong")) "__class__" = some (some (.builtin "object.__class__"))) ∧ (PySem.W.mroIn K (He.ga K "TooLong") (.type "object") = some true) ∧ (PySem.W.subIn K (.ref (He.ga K "TooLong")) (.ref (He.ga K "TooLong")) = some true) ∧ (PySem.W.subIn K (.ref (He.ga K "TooLong")) (.ref (He.ga K "BadSize")) = some false) ∧ (PySem.W.subIn K (.ref (He.ga K "TooLong")) (.ref (He.ga K "BadTable")) = some false) ∧ (PySem.W.subIn K (.ref (He.ga K "TooLong")) (.ref (He.ga K "UnknownWord")) = some false) ∧ (PySem.W.subIn K (.ref (He.ga K "TooLong")) (.ref (He.ga K "SizeMismatch")) = some false) ∧ (PySem.W.subIn K (.ref (He.ga K "TooLong")) (.ref (He.ga K "BadCount")) = some false) ∧ (PySem.W.subIn K (.ref (He.ga K "TooLong")) (.ref (He.ga K "BadPerson")) = some false) ∧ (PySem.W.subIn K (.ref (He.ga K "TooLong")) (.ref (He.ga K "BadLetter")) = some false) ∧ (PySem.W.subIn K (.ref (He.ga K "TooLong")) (.ref (He.ga K "UnknownPerson")) = some false) ∧ (PySem.W.subIn K (.ref (He.ga K "TooLong")) (.ref (He.ga K "TooMany")) = some false) ∧ (PySem.W.subIn K (.ref (He.ga K "TooLong")) (.ref (He.ga K "BadPattern")) = some false) ∧ (PySem.W.subIn K (.ref (He.ga K "TooLong")) (.ref (He.ga K "SameWord")) = some false) := by
  unfold hdB29 at h
  obtain ⟨h0, h⟩ := He.ba h
  obtain ⟨h1, h⟩ := He.ba h
  obtain ⟨h2, h⟩ := He.ba h
  obtain ⟨h3, h⟩ := He.ba h
  obtain ⟨h4, h⟩ := He.ba h
  obtain ⟨h5, h⟩ := He.ba h
  obtain ⟨h6, h⟩ := He.ba h
  obtain ⟨h7, h⟩ := He.ba h
  obtain ⟨h8, h⟩ := He.ba h
  obtain ⟨h9, h⟩ := He.ba h
  obtain ⟨h10, h⟩ := He.ba h
  obtain ⟨h11, h⟩ := He.ba h
  obtain ⟨h12, h⟩ := He.ba h
  obtain ⟨h13, h⟩ := He.ba h
  obtain ⟨h14, h⟩ := He.ba h
  obtain ⟨h15, h⟩ := He.ba h
  obtain ⟨h16, h⟩ := He.ba h
  obtain ⟨h17, h⟩ := He.ba h
  obtain ⟨h18, h⟩ := He.ba h
  exact ⟨He.eqO_ok h0, of_decide_eq_true h1, He.eqO_ok h2, He.eqO_ok h3, He.eqO_ok h4, h5, He.eqO_ok h6, of_decide_eq_true h7, of_decide_eq_true h8, of_decide_eq_true h9, of_decide_eq_true h10, of_decide_eq_true h11, of_decide_eq_true h12, of_decide_eq_true h13, of_decide_eq_true h14, of_decide_eq_true h15, of_decide_eq_true h16, of_decide_eq_true h17, of_decide_eq_true h18, of_decide_eq_true h⟩
theorem hdT30 {K : PySem.W.Frag} (h : hdB30 K = true) : (PySem.W.subIn K (.ref (He.ga K "TooLong")) (.ref (He.ga K "UnknownClue")) = some false) ∧ (PySem.W.subIn K (.ref (He.ga K "TooLong")) (.ref (He.ga K "BadPlace")) = some false) ∧ (PySem.W.subIn K (.ref (He.ga K "TooLong")) (.ref (He.ga K "Melted")) = some false) ∧ (PySem.W.subIn K (.ref (He.ga K "TooLong")) (.ref (He.ga K "NothingToUndo")) = some false) ∧ (PySem.W.subIn K (.ref (He.ga K "TooLong")) (.ref (He.ga K "NothingToRedo")) = some false) ∧ (PySem.W.subIn K (.ref (He.ga K "TooLong")) (.ref (He.ga K "Refused")) = some false) ∧ (PySem.W.subIn K (.ref (He.ga K "TooLong")) (.ref (He.ga K "BadLine")) = some false) ∧ (PySem.W.subIn K (.ref (He.ga K "TooLong")) (.ref (He.ga K "MurmurError")) = some true) ∧ (∃ nm q N bs bm sn sub ab col dd k0 k1 k2 k3 k5, K.lookup (He.ga K "Melted") = some (excClassObj nm q (He.ga K "Melted") N bs bm true sn sub ab col dd k0 k1 k2 k3 k5 "ValueError.__new__") ∧ PySem.HandSPX.refsVE bm = true) ∧ (PySem.W.findIn K (.ref (He.ga K "Melted")) "__setattr__" = some (some (.builtin "object.__setattr__"))) ∧ (PySem.W.subIn K (.ref (He.ga K "Melted")) (.type "BaseException") = some true) ∧ (PySem.W.keepIn K (.ref (He.ga K "Melted")) = true) ∧ (PySem.W.mroIn K (He.ga K "Melted") (.ref (He.ga K "Melted")) = some true) ∧ (PySem.W.subIn K (.ref (He.ga K "Melted")) (.type "ValueError") = some true) ∧ (PySem.W.ks_superIn K (He.ga K "Melted") (He.ga K "Melted") "__init__" = some (some (.builtin "ValueError.__init__"))) ∧ (∃ ek ew ev er ef eg, K.lookup (Hd.codeOf K (He.ma K (He.ga K "Melted") "__init__")) = some ⟨ek, ew, .fields ev, er⟩ ∧ ev[2]? = some (.str ef eg) ∧ (((PySem.Challenge.rw_murmurline_k77_whole_family_of_errors).prog.main.file : Str) == ef) = true) ∧ (∃ el eu eq, K.lookup (Hd.cellOf K (He.ma K (He.ga K "Melted") "__init__")) = some ⟨el, eu, .cell (some (.ref (He.ga K "Melted"))), eq⟩) ∧ (PySem.W.findIn K (.ref (He.ga K "Melted")) "__init__" = some (some (.ref (He.ma K (He.ga K "Melted") "__init__")))) ∧ (PySem.W.typeIn K (.ref (He.ma K (He.ga K "Melted") "__init__")) = some (.type "function")) ∧ (PySem.W.findIn K (.ref (He.ga K "Melted")) "first" = some none) := by
  unfold hdB30 at h
  obtain ⟨h0, h⟩ := He.ba h
  obtain ⟨h1, h⟩ := He.ba h
  obtain ⟨h2, h⟩ := He.ba h
  obtain ⟨h3, h⟩ := He.ba h
  obtain ⟨h4, h⟩ := He.ba h
  obtain ⟨h5, h⟩ := He.ba h
  obtain ⟨h6, h⟩ := He.ba h
  obtain ⟨h7, h⟩ := He.ba h
  obtain ⟨h8, h⟩ := He.ba h
  obtain ⟨h9, h⟩ := He.ba h
  obtain ⟨h10, h⟩ := He.ba h
  obtain ⟨h11, h⟩ := He.ba h
  obtain ⟨h12, h⟩ := He.ba h
  obtain ⟨h13, h⟩ := He.ba h
  obtain ⟨h14, h⟩ := He.ba h
  obtain ⟨h15, h⟩ := He.ba h
  obtain ⟨h16, h⟩ := He.ba h
  obtain ⟨h17, h⟩ := He.ba h
  obtain ⟨h18, h⟩ := He.ba h
  exact ⟨of_decide_eq_true h0, of_decide_eq_true h1, of_decide_eq_true h2, of_decide_eq_true h3, of_decide_eq_true h4, of_decide_eq_true h5, of_decide_eq_true h6, of_decide_eq_true h7, Hd.ec_ok h8, He.eqO_ok h9, of_decide_eq_true h10, h11, of_decide_eq_true h12, of_decide_eq_true h13, He.eqO_ok h14, Hd.file_ok h15, Hd.cell_ok h16, He.eqO_ok h17, of_decide_eq_true h18, He.eqO_ok h⟩
theorem hdT31 {K : PySem.W.Frag} (h : hdB31 K = true) : (PySem.W.findIn K (.ref (He.ga K "Melted")) "second" = some none) ∧ (PySem.W.findIn K (.ref (He.ga K "Melted")) "__getattribute__" = some (some (.builtin "BaseException.__getattribute__"))) ∧ (PySem.W.findIn K (.ref (He.ga K "Melted")) "__getattr__" = some none) ∧ (PySem.W.hasDictIn K (He.ga K "Melted") = true) ∧ (PySem.W.findIn K (.ref (He.ga K "Melted")) "__class__" = some (some (.builtin "object.__class__"))) ∧ (PySem.W.mroIn K (He.ga K "Melted") (.type "object") = some true) ∧ (PySem.W.subIn K (.ref (He.ga K "Melted")) (.ref (He.ga K "Melted")) = some true) ∧ (PySem.W.subIn K (.ref (He.ga K "Melted")) (.ref (He.ga K "BadSize")) = some false) ∧ (PySem.W.subIn K (.ref (He.ga K "Melted")) (.ref (He.ga K "BadTable")) = some false) ∧ (PySem.W.subIn K (.ref (He.ga K "Melted")) (.ref (He.ga K "UnknownWord")) = some false) ∧ (PySem.W.subIn K (.ref (He.ga K "Melted")) (.ref (He.ga K "SizeMismatch")) = some false) ∧ (PySem.W.subIn K (.ref (He.ga K "Melted")) (.ref (He.ga K "BadCount")) = some false) ∧ (PySem.W.subIn K (.ref (He.ga K "Melted")) (.ref (He.ga K "BadPerson")) = some false) ∧ (PySem.W.subIn K (.ref (He.ga K "Melted")) (.ref (He.ga K "BadLetter")) = some false) ∧ (PySem.W.subIn K (.ref (He.ga K "Melted")) (.ref (He.ga K "UnknownPerson")) = some false) ∧ (PySem.W.subIn K (.ref (He.ga K "Melted")) (.ref (He.ga K "TooMany")) = some false) ∧ (PySem.W.subIn K (.ref (He.ga K "Melted")) (.ref (He.ga K "BadPattern")) = some false) ∧ (PySem.W.subIn K (.ref (He.ga K "Melted")) (.ref (He.ga K "SameWord")) = some false) ∧ (PySem.W.subIn K (.ref (He.ga K "Melted")) (.ref (He.ga K "UnknownClue")) = some false) ∧ (PySem.W.subIn K (.ref (He.ga K "Melted")) (.ref (He.ga K "BadPlace")) = some false) := by
  unfold hdB31 at h
  obtain ⟨h0, h⟩ := He.ba h
  obtain ⟨h1, h⟩ := He.ba h
  obtain ⟨h2, h⟩ := He.ba h
  obtain ⟨h3, h⟩ := He.ba h
  obtain ⟨h4, h⟩ := He.ba h
  obtain ⟨h5, h⟩ := He.ba h
  obtain ⟨h6, h⟩ := He.ba h
  obtain ⟨h7, h⟩ := He.ba h
  obtain ⟨h8, h⟩ := He.ba h
  obtain ⟨h9, h⟩ := He.ba h
  obtain ⟨h10, h⟩ := He.ba h
  obtain ⟨h11, h⟩ := He.ba h
  obtain ⟨h12, h⟩ := He.ba h
  obtain ⟨h13, h⟩ := He.ba h
  obtain ⟨h14, h⟩ := He.ba h
  obtain ⟨h15, h⟩ := He.ba h
  obtain ⟨h16, h⟩ := He.ba h
  obtain ⟨h17, h⟩ := He.ba h
  obtain ⟨h18, h⟩ := He.ba h
  exact ⟨He.eqO_ok h0, He.eqO_ok h1, He.eqO_ok h2, h3, He.eqO_ok h4, of_decide_eq_true h5, of_decide_eq_true h6, of_decide_eq_true h7, of_decide_eq_true h8, of_decide_eq_true h9, of_decide_eq_true h10, of_decide_eq_true h11, of_decide_eq_true h12, of_decide_eq_true h13, of_decide_eq_true h14, of_decide_eq_true h15, of_decide_eq_true h16, of_decide_eq_true h17, of_decide_eq_true h18, of_decide_eq_true h⟩
theorem hdT32 {K : PySem.W.Frag} (h : hdB32 K = true) : (PySem.W.subIn K (.ref (He.ga K "Melted")) (.ref (He.ga K "TooLong")) = some false) ∧ (PySem.W.subIn K (.ref (He.ga K "Melted")) (.ref (He.ga K "NothingToUndo")) = some false) ∧ (PySem.W.subIn K (.ref (He.ga K "Melted")) (.ref (He.ga K "NothingToRedo")) = some false) ∧ (PySem.W.subIn K (.ref (He.ga K "Melted")) (.ref (He.ga K "Refused")) = some false) ∧ (PySem.W.subIn K (.ref (He.ga K "Melted")) (.ref (He.ga K "BadLine")) = some false) ∧ (PySem.W.subIn K (.ref (He.ga K "Melted")) (.ref (He.ga K "MurmurError")) = some true) ∧ (∃ nm q N bs bm sn sub ab col dd k0 k1 k2 k3 k5, K.lookup (He.ga K "NothingToUndo") = some (excClassObj nm q (He.ga K "NothingToUndo") N bs bm true sn sub ab col dd k0 k1 k2 k3 k5 "ValueError.__new__") ∧ PySem.HandSPX.refsVE bm = true) ∧ (PySem.W.findIn K (.ref (He.ga K "NothingToUndo")) "__setattr__" = some (some (.builtin "object.__setattr__"))) ∧ (PySem.W.subIn K (.ref (He.ga K "NothingToUndo")) (.type "BaseException") = some true) ∧ (PySem.W.keepIn K (.ref (He.ga K "NothingToUndo")) = true) ∧ (PySem.W.mroIn K (He.ga K "NothingToUndo") (.ref (He.ga K "NothingToUndo")) = some true) ∧ (PySem.W.subIn K (.ref (He.ga K "NothingToUndo")) (.type "ValueError") = some true) ∧ (PySem.W.ks_superIn K (He.ga K "NothingToUndo") (He.ga K "NothingToUndo") "__init__" = some (some (.builtin "ValueError.__init__"))) ∧ (∃ ek ew ev er ef eg, K.lookup (Hd.codeOf K (He.ma K (He.ga K "NothingToUndo") "__init__")) = some ⟨ek, ew, .fields ev, er⟩ ∧ ev[2]? = some (.str ef eg) ∧ (((PySem.Challenge.rw_murmurline_k77_whole_family_of_errors).prog.main.file : Str) == ef) = true) ∧ (∃ el eu eq, K.lookup (Hd.cellOf K (He.ma K (He.ga K "NothingToUndo") "__init__")) = some ⟨el, eu, .cell (some (.ref (He.ga K "NothingToUndo"))), eq⟩) ∧ (PySem.W.findIn K (.ref (He.ga K "NothingToUndo")) "__init__" = some (some (.ref (He.ma K (He.ga K "NothingToUndo") "__init__")))) ∧ (PySem.W.typeIn K (.ref (He.ma K (He.ga K "NothingToUndo") "__init__")) = some (.type "function")) ∧ (PySem.W.findIn K (.ref (He.ga K "NothingToUndo")) "__getattribute__" = some (some (.builtin "BaseException.__getattribute__"))) ∧ (PySem.W.findIn K (.ref (He.ga K "NothingToUndo")) "__getattr__" = some none) ∧ (PySem.W.hasDictIn K (He.ga K "NothingToUndo") = true) := by
  unfold hdB32 at h
  obtain ⟨h0, h⟩ := He.ba h
  obtain ⟨h1, h⟩ := He.ba h
  obtain ⟨h2, h⟩ := He.ba h
  obtain ⟨h3, h⟩ := He.ba h
  obtain ⟨h4, h⟩ := He.ba h
  obtain ⟨h5, h⟩ := He.ba h
  obtain ⟨h6, h⟩ := He.ba h
  obtain ⟨h7, h⟩ := He.ba h
  obtain ⟨h8, h⟩ := He.ba h
  obtain ⟨h9, h⟩ := He.ba h
  obtain ⟨h10, h⟩ := He.ba h
  obtain ⟨h11, h⟩ := He.ba h
  obtain ⟨h12, h⟩ := He.ba h
  obtain ⟨h13, h⟩ := He.ba h
  obtain ⟨h14, h⟩ := He.ba h
  obtain ⟨h15, h⟩ := He.ba h
  obtain ⟨h16, h⟩ := He.ba h
  obtain ⟨h17, h⟩ := He.ba h
  obtain ⟨h18, h⟩ := He.ba h
  exact ⟨of_decide_eq_true h0, of_decide_eq_true h1, of_decide_eq_true h2, of_decide_eq_true h3, of_decide_eq_true h4, of_decide_eq_true h5, Hd.ec_ok h6, He.eqO_ok h7, of_decide_eq_true h8, h9, of_decide_eq_true h10, of_decide_eq_true h11, He.eqO_ok h12, Hd.file_ok h13, Hd.cell_ok h14, He.eqO_ok h15, of_decide_eq_true h16, He.eqO_ok h17, He.eqO_ok h18, h⟩
theorem hdT33 {K : PySem.W.Frag} (h : hdB33 K = true) : (PySem.W.findIn K (.ref (He.ga K "NothingToUndo")) "__class__" = some (some (.builtin "object.__class__"))) ∧ (PySem.W.mroIn K (He.ga K "NothingToUndo") (.type "object") = some true) ∧ (PySem.W.subIn K (.ref (He.ga K "NothingToUndo")) (.ref (He.ga K "NothingToUndo")) = some true) ∧ (PySem.W.subIn K (.ref (He.ga K "NothingToUndo")) (.ref (He.ga K "BadSize")) = some false) ∧ (PySem.W.subIn K (.ref (He.ga K "NothingToUndo")) (.ref (He.ga K "BadTable")) = some false) ∧ (PySem.W.subIn K (.ref (He.ga K "NothingToUndo")) (.ref (He.ga K "UnknownWord")) = some false) ∧ (PySem.W.subIn K (.ref (He.ga K "NothingToUndo")) (.ref (He.ga K "SizeMismatch")) = some false) ∧ (PySem.W.subIn K (.ref (He.ga K "NothingToUndo")) (.ref (He.ga K "BadCount")) = some false) ∧ (PySem.W.subIn K (.ref (He.ga K "NothingToUndo")) (.ref (He.ga K "BadPerson")) = some false) ∧ (PySem.W.subIn K (.ref (He.ga K "NothingToUndo")) (.ref (He.ga K "BadLetter")) = some false) ∧ (PySem.W.subIn K (.ref (He.ga K "NothingToUndo")) (.ref (He.ga K "UnknownPerson")) = some false) ∧ (PySem.W.subIn K (.ref (He.ga K "NothingToUndo")) (.ref (He.ga K "TooMany")) = some false) ∧ (PySem.W.subIn K (.ref (He.ga K "NothingToUndo")) (.ref (He.ga K "BadPattern")) = some false) ∧ (PySem.W.subIn K (.ref (He.ga K "NothingToUndo")) (.ref (He.ga K "SameWord")) = some false) ∧ (PySem.W.subIn K (.ref (He.ga K "NothingToUndo")) (.ref (He.ga K "UnknownClue")) = some false) ∧ (PySem.W.subIn K (.ref (He.ga K "NothingToUndo")) (.ref (He.ga K "BadPlace")) = some false) ∧ (PySem.W.subIn K (.ref (He.ga K "NothingToUndo")) (.ref (He.ga K "TooLong")) = some false) ∧ (PySem.W.subIn K (.ref (He.ga K "NothingToUndo")) (.ref (He.ga K "Melted")) = some false) ∧ (PySem.W.subIn K (.ref (He.ga K "NothingToUndo")) (.ref (He.ga K "NothingToRedo")) = some false) ∧ (PySem.W.subIn K (.ref (He.ga K "NothingToUndo")) (.ref (He.ga K "Refused")) = some false) := by
  unfold hdB33 at h
  obtain ⟨h0, h⟩ := He.ba h
  obtain ⟨h1, h⟩ := He.ba h
  obtain ⟨h2, h⟩ := He.ba h
  obtain ⟨h3, h⟩ := He.ba h
  obtain ⟨h4, h⟩ := He.ba h
  obtain ⟨h5, h⟩ := He.ba h
  obtain ⟨h6, h⟩ := He.ba h
  obtain ⟨h7, h⟩ := He.ba h
  obtain ⟨h8, h⟩ := He.ba h
  obtain ⟨h9, h⟩ := He.ba h
  obtain ⟨h10, h⟩ := He.ba h
  obtain ⟨h11, h⟩ := He.ba h
  obtain ⟨h12, h⟩ := He.ba h
  obtain ⟨h13, h⟩ := He.ba h
  obtain ⟨h14, h⟩ := He.ba h
  obtain ⟨h15, h⟩ := He.ba h
  obtain ⟨h16, h⟩ := He.ba h
  obtain ⟨h17, h⟩ := He.ba h
  obtain ⟨h18, h⟩ := He.ba h
  exact ⟨He.eqO_ok h0, of_decide_eq_true h1, of_decide_eq_true h2, of_decide_eq_true h3, of_decide_eq_true h4, of_decide_eq_true h5, of_decide_eq_true h6, of_decide_eq_true h7, of_decide_eq_true h8, of_decide_eq_true h9, of_decide_eq_true h10, of_decide_eq_true h11, of_decide_eq_true h12, of_decide_eq_true h13, of_decide_eq_true h14, of_decide_eq_true h15, of_decide_eq_true h16, of_decide_eq_true h17, of_decide_eq_true h18, of_decide_eq_true h⟩
theorem hdT34 {K : PySem.W.Frag} (h : hdB34 K = true) : (PySem.W.subIn K (.ref (He.ga K "NothingToUndo")) (.ref (He.ga K "BadLine")) = some false) ∧ (PySem.W.subIn K (.ref (He.ga K "NothingToUndo")) (.ref (He.ga K "MurmurError")) = some true) ∧ (∃ nm q N bs bm sn sub ab col dd k0 k1 k2 k3 k5, K.lookup (He.ga K "NothingToRedo") = some (excClassObj nm q (He.ga K "NothingToRedo") N bs bm true sn sub ab col dd k0 k1 k2 k3 k5 "ValueError.__new__") ∧ PySem.HandSPX.refsVE bm = true) ∧ (PySem.W.findIn K (.ref (He.ga K "NothingToRedo")) "__setattr__" = some (some (.builtin "object.__setattr__"))) ∧ (PySem.W.subIn K (.ref (He.ga K "NothingToRedo")) (.type "BaseException") = some true) ∧ (PySem.W.keepIn K (.ref (He.ga K "NothingToRedo")) = true) ∧ (PySem.W.mroIn K (He.ga K "NothingToRedo") (.ref (He.ga K "NothingToRedo")) = some true) ∧ (PySem.W.subIn K (.ref (He.ga K "NothingToRedo")) (.type "ValueError") = some true) ∧ (PySem.W.ks_superIn K (He.ga K "NothingToRedo") (He.ga K "NothingToRedo") "__init__" = some (some (.builtin "ValueError.__init__"))) ∧ (∃ ek ew ev er ef eg, K.lookup (Hd.codeOf K (He.ma K (He.ga K "NothingToRedo") "__init__")) = some ⟨ek, ew, .fields ev, er⟩ ∧ ev[2]? = some (.str ef eg) ∧ (((PySem.Challenge.rw_murmurline_k77_whole_family_of_errors).prog.main.file : Str) == ef) = true) ∧ (∃ el eu eq, K.lookup (Hd.cellOf K (He.ma K (He.ga K "NothingToRedo") "__init__")) = some ⟨el, eu, .cell (some (.ref (He.ga K "NothingToRedo"))), eq⟩) ∧ (PySem.W.findIn K (.ref (He.ga K "NothingToRedo")) "__init__" = some (some (.ref (He.ma K (He.ga K "NothingToRedo") "__init__")))) ∧ (PySem.W.typeIn K (.ref (He.ma K (He.ga K "NothingToRedo") "__init__")) = some (.type "function")) ∧ (PySem.W.findIn K (.ref (He.ga K "NothingToRedo")) "__getattribute__" = some (some (.builtin "BaseException.__getattribute__"))) ∧ (PySem.W.findIn K (.ref (He.ga K "NothingToRedo")) "__getattr__" = some none) ∧ (PySem.W.hasDictIn K (He.ga K "NothingToRedo") = true) ∧ (PySem.W.findIn K (.ref (He.ga K "NothingToRedo")) "__class__" = some (some (.builtin "object.__class__"))) ∧ (PySem.W.mroIn K (He.ga K "NothingToRedo") (.type "object") = some true) ∧ (PySem.W.subIn K (.ref (He.ga K "NothingToRedo")) (.ref (He.ga K "NothingToRedo")) = some true) ∧ (PySem.W.subIn K (.ref (He.ga K "NothingToRedo")) (.ref (He.ga K "BadSize")) = some false) := by
  unfold hdB34 at h
  obtain ⟨h0, h⟩ := He.ba h
  obtain ⟨h1, h⟩ := He.ba h
  obtain ⟨h2, h⟩ := He.ba h
  obtain ⟨h3, h⟩ := He.ba h
  obtain ⟨h4, h⟩ := He.ba h
  obtain ⟨h5, h⟩ := He.ba h
  obtain ⟨h6, h⟩ := He.ba h
  obtain ⟨h7, h⟩ := He.ba h
  obtain ⟨h8, h⟩ := He.ba h
  obtain ⟨h9, h⟩ := He.ba h
  obtain ⟨h10, h⟩ := He.ba h
  obtain ⟨h11, h⟩ := He.ba h
  obtain ⟨h12, h⟩ := He.ba h
  obtain ⟨h13, h⟩ := He.ba h
  obtain ⟨h14, h⟩ := He.ba h
  obtain ⟨h15, h⟩ := He.ba h
  obtain ⟨h16, h⟩ := He.ba h
  obtain ⟨h17, h⟩ := He.ba h
  obtain ⟨h18, h⟩ := He.ba h
  exact ⟨of_decide_eq_true h0, of_decide_eq_true h1, Hd.ec_ok h2, He.eqO_ok h3, of_decide_eq_true h4, h5, of_decide_eq_true h6, of_decide_eq_true h7, He.eqO_ok h8, Hd.file_ok h9, Hd.cell_ok h10, He.eqO_ok h11, of_decide_eq_true h12, He.eqO_ok h13, He.eqO_ok h14, h15, He.eqO_ok h16, of_decide_eq_true h17, of_decide_eq_true h18, of_decide_eq_true h⟩
theorem hdT35 {K : PySem.W.Frag} (h : hdB35 K = true) : (PySem.W.subIn K (.ref (He.ga K "NothingToRedo")) (.ref (He.ga K "BadTable")) = some false) ∧ (PySem.W.subIn K (.ref (He.ga K "NothingToRedo")) (.ref (He.ga K "UnknownWord")) = some false) ∧ (PySem.W.subIn K (.ref (He.ga K "NothingToRedo")) (.ref (He.ga K "SizeMismatch")) = some false) ∧ (PySem.W.subIn K (.ref (He.ga K "NothingToRedo")) (.ref (He.ga K "BadCount")) = some false) ∧ (PySem.W.subIn K (.ref (He.ga K "NothingToRedo")) (.ref (He.ga K "BadPerson")) = some false) ∧ (PySem.W.subIn K (.ref (He.ga K "NothingToRedo")) (.ref (He.ga K "BadLetter")) = some false) ∧ (PySem.W.subIn K (.ref (He.ga K "NothingToRedo")) (.ref (He.ga K "UnknownPerson")) = some false) ∧ (PySem.W.subIn K (.ref (He.ga K "NothingToRedo")) (.ref (He.ga K "TooMany")) = some false) ∧ (PySem.W.subIn K (.ref (He.ga K "NothingToRedo")) (.ref (He.ga K "BadPattern")) = some false) ∧ (PySem.W.subIn K (.ref (He.ga K "NothingToRedo")) (.ref (He.ga K "SameWord")) = some false) ∧ (PySem.W.subIn K (.ref (He.ga K "NothingToRedo")) (.ref (He.ga K "UnknownClue")) = some false) ∧ (PySem.W.subIn K (.ref (He.ga K "NothingToRedo")) (.ref (He.ga K "BadPlace")) = some false) ∧ (PySem.W.subIn K (.ref (He.ga K "NothingToRedo")) (.ref (He.ga K "TooLong")) = some false) ∧ (PySem.W.subIn K (.ref (He.ga K "NothingToRedo")) (.ref (He.ga K "Melted")) = some false) ∧ (PySem.W.subIn K (.ref (He.ga K "NothingToRedo")) (.ref (He.ga K "NothingToUndo")) = some false) ∧ (PySem.W.subIn K (.ref (He.ga K "NothingToRedo")) (.ref (He.ga K "Refused")) = some false) ∧ (PySem.W.subIn K (.ref (He.ga K "NothingToRedo")) (.ref (He.ga K "BadLine")) = some false) ∧ (PySem.W.subIn K (.ref (He.ga K "NothingToRedo")) (.ref (He.ga K "MurmurError")) = some true) ∧ (∃ nm q N bs bm sn sub ab col dd k0 k1 k2 k3 k5, K.lookup (He.ga K "Refused") = some (excClassObj nm q (He.ga K "Refused") N bs bm true sn sub ab col dd k0 k1 k2 k3 k5 "ValueError.__new__") ∧ PySem.HandSPX.refsVE bm = true) ∧ (PySem.W.findIn K (.ref (He.ga K "Refused")) "__setattr__" = some (some (.builtin "object.__setattr__"))) := by
  unfold hdB35 at h
  obtain ⟨h0, h⟩ := He.ba h
  obtain ⟨h1, h⟩ := He.ba h
  obtain ⟨h2, h⟩ := He.ba h
  obtain ⟨h3, h⟩ := He.ba h
  obtain ⟨h4, h⟩ := He.ba h
  obtain ⟨h5, h⟩ := He.ba h
  obtain ⟨h6, h⟩ := He.ba h
  obtain ⟨h7, h⟩ := He.ba h
  obtain ⟨h8, h⟩ := He.ba h
  obtain ⟨h9, h⟩ := He.ba h
  obtain ⟨h10, h⟩ := He.ba h
  obtain ⟨h11, h⟩ := He.ba h
  obtain ⟨h12, h⟩ := He.ba h
  obtain ⟨h13, h⟩ := He.ba h
  obtain ⟨h14, h⟩ := He.ba h
  obtain ⟨h15, h⟩ := He.ba h
  obtain ⟨h16, h⟩ := He.ba h
  obtain ⟨h17, h⟩ := He.ba h
  obtain ⟨h18, h⟩ := He.ba h
  exact ⟨of_decide_eq_true h0, of_decide_eq_true h1, of_decide_eq_true h2, of_decide_eq_true h3, of_decide_eq_true h4, of_decide_eq_true h5, of_decide_eq_true h6, of_decide_eq_true h7, of_decide_eq_true h8, of_decide_eq_true h9, of_decide_eq_true h10, of_decide_eq_true h11, of_decide_eq_true h12, of_decide_eq_true h13, of_decide_eq_true h14, of_decide_eq_true h15, of_decide_eq_true h16, of_decide_eq_true h17, Hd.ec_ok h18, He.eqO_ok h⟩
theorem hdT36 {K : PySem.W.Frag} (h : hdB36 K = true) : (PySem.W.subIn K (.ref (He.ga K "Refused")) (.type "BaseException") = some true) ∧ (PySem.W.keepIn K (.ref (He.ga K "Refused")) = true) ∧ (PySem.W.mroIn K (He.ga K "Refused") (.ref (He.ga K "Refused")) = some true) ∧ (PySem.W.subIn K (.ref (He.ga K "Refused")) (.type "ValueError") = some true) ∧ (PySem.W.ks_superIn K (He.ga K "Refused") (He.ga K "Refused") "__init__" = some (some (.builtin "ValueError.__init__"))) ∧ (∃ ek ew ev er ef eg, K.lookup (Hd.codeOf K (He.ma K (He.ga K "Refused") "__init__")) = some ⟨ek, ew, .fields ev, er⟩ ∧ ev[2]? = some (.str ef eg) ∧ (((PySem.Challenge.rw_murmurline_k77_whole_family_of_errors).prog.main.file : Str) == ef) = true) ∧ (∃ el eu eq, K.lookup (Hd.cellOf K (He.ma K (He.ga K "Refused") "__init__")) = some ⟨el, eu, .cell (some (.ref (He.ga K "Refused"))), eq⟩) ∧ (PySem.W.findIn K (.ref (He.ga K "Refused")) "__init__" = some (some (.ref (He.ma K (He.ga K "Refused") "__init__")))) ∧ (PySem.W.typeIn K (.ref (He.ma K (He.ga K "Refused") "__init__")) = some (.type "function")) ∧ (PySem.W.findIn K (.ref (He.ga K "Refused")) "index" = some none) ∧ (PySem.W.findIn K (.ref (He.ga K "Refused")) "__getattribute__" = some (some (.builtin "BaseException.__getattribute__"))) ∧ (PySem.W.findIn K (.ref (He.ga K "Refused")) "__getattr__" = some none) ∧ (PySem.W.hasDictIn K (He.ga K "Refused") = true) ∧ (PySem.W.findIn K (.ref (He.ga K "Refused")) "__class__" = some (some (.builtin "object.__class__"))) ∧ (PySem.W.mroIn K (He.ga K "Refused") (.type "object") = some true) ∧ (PySem.W.subIn K (.ref (He.ga K "Refused")) (.ref (He.ga K "Refused")) = some true) ∧ (PySem.W.subIn K (.ref (He.ga K "Refused")) (.ref (He.ga K "BadSize")) = some false) ∧ (PySem.W.subIn K (.ref (He.ga K "Refused")) (.ref (He.ga K "BadTable")) = some false) ∧ (PySem.W.subIn K (.ref (He.ga K "Refused")) (.ref (He.ga K "UnknownWord")) = some false) ∧ (PySem.W.subIn K (.ref (He.ga K "Refused")) (.ref (He.ga K "SizeMismatch")) = some false) := by
  unfold hdB36 at h
  obtain ⟨h0, h⟩ := He.ba h
  obtain ⟨h1, h⟩ := He.ba h
  obtain ⟨h2, h⟩ := He.ba h
  obtain ⟨h3, h⟩ := He.ba h
  obtain ⟨h4, h⟩ := He.ba h
  obtain ⟨h5, h⟩ := He.ba h
  obtain ⟨h6, h⟩ := He.ba h
  obtain ⟨h7, h⟩ := He.ba h
  obtain ⟨h8, h⟩ := He.ba h
  obtain ⟨h9, h⟩ := He.ba h
  obtain ⟨h10, h⟩ := He.ba h
  obtain ⟨h11, h⟩ := He.ba h
  obtain ⟨h12, h⟩ := He.ba h
  obtain ⟨h13, h⟩ := He.ba h
  obtain ⟨h14, h⟩ := He.ba h
  obtain ⟨h15, h⟩ := He.ba h
  obtain ⟨h16, h⟩ := He.ba h
  obtain ⟨h17, h⟩ := He.ba h
  obtain ⟨h18, h⟩ := He.ba h
  exact ⟨of_decide_eq_true h0, h1, of_decide_eq_true h2, of_decide_eq_true h3, He.eqO_ok h4, Hd.file_ok h5, Hd.cell_ok h6, He.eqO_ok h7, of_decide_eq_true h8, He.eqO_ok h9, He.eqO_ok h10, He.eqO_ok h11, h12, He.eqO_ok h13, of_decide_eq_true h14, of_decide_eq_true h15, of_decide_eq_true h16, of_decide_eq_true h17, of_decide_eq_true h18, of_decide_eq_true h⟩
theorem hdT37 {K : PySem.W.Frag} (h : hdB37 K = true) : (PySem.W.subIn K (.ref (He.ga K "Refused")) (.ref (He.ga K "BadCount")) = some false) ∧ (PySem.W.subIn K (.ref (He.ga K "Refused")) (.ref (He.ga K "BadPerson")) = some false) ∧ (PySem.W.subIn K (.ref (He.ga K "Refused")) (.ref (He.ga K "BadLetter")) = some false) ∧ (PySem.W.subIn K (.ref (He.ga K "Refused")) (.ref (He.ga K "UnknownPerson")) = some false) ∧ (PySem.W.subIn K (.ref (He.ga K "Refused")) (.ref (He.ga K "TooMany")) = some false) ∧ (PySem.W.subIn K (.ref (He.ga K "Refused")) (.ref (He.ga K "BadPattern")) = some false) ∧ (PySem.W.subIn K (.ref (He.ga K "Refused")) (.ref (He.ga K "SameWord")) = some false) ∧ (PySem.W.subIn K (.ref (He.ga K "Refused")) (.ref (He.ga K "UnknownClue")) = some false) ∧ (PySem.W.subIn K (.ref (He.ga K "Refused")) (.ref (He.ga K "BadPlace")) = some false) ∧ (PySem.W.subIn K (.ref (He.ga K "Refused")) (.ref (He.ga K "TooLong")) = some false) ∧ (PySem.W.subIn K (.ref (He.ga K "Refused")) (.ref (He.ga K "Melted")) = some false) ∧ (PySem.W.subIn K (.ref (He.ga K "Refused")) (.ref (He.ga K "NothingToUndo")) = some false) ∧ (PySem.W.subIn K (.ref (He.ga K "Refused")) (.ref (He.ga K "NothingToRedo")) = some false) ∧ (PySem.W.subIn K (.ref (He.ga K "Refused")) (.ref (He.ga K "BadLine")) = some false) ∧ (PySem.W.subIn K (.ref (He.ga K "Refused")) (.ref (He.ga K "MurmurError")) = some true) ∧ (∃ nm q N bs bm sn sub ab col dd k0 k1 k2 k3 k5, K.lookup (He.ga K "BadLine") = some (excClassObj nm q (He.ga K "BadLine") N bs bm true sn sub ab col dd k0 k1 k2 k3 k5 "ValueError.__new__") ∧ PySem.HandSPX.refsVE bm = true) ∧ (PySem.W.findIn K (.ref (He.ga K "BadLine")) "__setattr__" = some (some (.builtin "object.__setattr__"))) ∧ (PySem.W.subIn K (.ref (He.ga K "BadLine")) (.type "BaseException") = some true) ∧ (PySem.W.keepIn K (.ref (He.ga K "BadLine")) = true) ∧ (PySem.W.mroIn K (He.ga K "BadLine") (.ref (He.ga K "BadLine")) = some true) := by
  unfold hdB37 at h
  obtain ⟨h0, h⟩ := He.ba h
  obtain ⟨h1, h⟩ := He.ba h
  obtain ⟨h2, h⟩ := He.ba h
  obtain ⟨h3, h⟩ := He.ba h
  obtain ⟨h4, h⟩ := He.ba h
  obtain ⟨h5, h⟩ := He.ba h
  obtain ⟨h6, h⟩ := He.ba h
  obtain ⟨h7, h⟩ := He.ba h
  obtain ⟨h8, h⟩ := He.ba h
  obtain ⟨h9, h⟩ := He.ba h
  obtain ⟨h10, h⟩ := He.ba h
  obtain ⟨h11, h⟩ := He.ba h
  obtain ⟨h12, h⟩ := He.ba h
  obtain ⟨h13, h⟩ := He.ba h
  obtain ⟨h14, h⟩ := He.ba h
  obtain ⟨h15, h⟩ := He.ba h
  obtain ⟨h16, h⟩ := He.ba h
  obtain ⟨h17, h⟩ := He.ba h
  obtain ⟨h18, h⟩ := He.ba h
  exact ⟨of_decide_eq_true h0, of_decide_eq_true h1, of_decide_eq_true h2, of_decide_eq_true h3, of_decide_eq_true h4, of_decide_eq_true h5, of_decide_eq_true h6, of_decide_eq_true h7, of_decide_eq_true h8, of_decide_eq_true h9, of_decide_eq_true h10, of_decide_eq_true h11, of_decide_eq_true h12, of_decide_eq_true h13, of_decide_eq_true h14, Hd.ec_ok h15, He.eqO_ok h16, of_decide_eq_true h17, h18, of_decide_eq_true h⟩
theorem hdT38 {K : PySem.W.Frag} (h : hdB38 K = true) : (PySem.W.subIn K (.ref (He.ga K "BadLine")) (.type "ValueError") = some true) ∧ (PySem.W.ks_superIn K (He.ga K "BadLine") (He.ga K "BadLine") "__init__" = some (some (.builtin "ValueError.__init__"))) ∧ (∃ ek ew ev er ef eg, K.lookup (Hd.codeOf K (He.ma K (He.ga K "BadLine") "__init__")) = some ⟨ek, ew, .fields ev, er⟩ ∧ ev[2]? = some (.str ef eg) ∧ (((PySem.Challenge.rw_murmurline_k77_whole_family_of_errors).prog.main.file : Str) == ef) = true) ∧ (∃ el eu eq, K.lookup (Hd.cellOf K (He.ma K (He.ga K "BadLine") "__init__")) = some ⟨el, eu, .cell (some (.ref (He.ga K "BadLine"))), eq⟩) ∧ (PySem.W.findIn K (.ref (He.ga K "BadLine")) "__init__" = some (some (.ref (He.ma K (He.ga K "BadLine") "__init__")))) ∧ (PySem.W.typeIn K (.ref (He.ma K (He.ga K "BadLine") "__init__")) = some (.type "function")) ∧ (PySem.W.findIn K (.ref (He.ga K "BadLine")) "line" = some none) ∧ (PySem.W.findIn K (.ref (He.ga K "BadLine")) "__getattribute__" = some (some (.builtin "BaseException.__getattribute__"))) ∧ (PySem.W.findIn K (.ref (He.ga K "BadLine")) "__getattr__" = some none) ∧ (PySem.W.hasDictIn K (He.ga K "BadLine") = true) ∧ (PySem.W.findIn K (.ref (He.ga K "BadLine")) "__class__" = some (some (.builtin "object.__class__"))) ∧ (PySem.W.mroIn K (He.ga K "BadLine") (.type "object") = some true) ∧ (PySem.W.subIn K (.ref (He.ga K "BadLine")) (.ref (He.ga K "BadLine")) = some true) ∧ (PySem.W.subIn K (.ref (He.ga K "BadLine")) (.ref (He.ga K "BadSize")) = some false) ∧ (PySem.W.subIn K (.ref (He.ga K "BadLine")) (.ref (He.ga K "BadTable")) = some false) ∧ (PySem.W.subIn K (.ref (He.ga K "BadLine")) (.ref (He.ga K "UnknownWord")) = some false) ∧ (PySem.W.subIn K (.ref (He.ga K "BadLine")) (.ref (He.ga K "SizeMismatch")) = some false) ∧ (PySem.W.subIn K (.ref (He.ga K "BadLine")) (.ref (He.ga K "BadCount")) = some false) ∧ (PySem.W.subIn K (.ref (He.ga K "BadLine")) (.ref (He.ga K "BadPerson")) = some false) ∧ (PySem.W.subIn K (.ref (He.ga K "BadLine")) (.ref (He.ga K "BadLetter")) = some false) := by
  unfold hdB38 at h
  obtain ⟨h0, h⟩ := He.ba h
  obtain ⟨h1, h⟩ := He.ba h
  obtain ⟨h2, h⟩ := He.ba h
  obtain ⟨h3, h⟩ := He.ba h
  obtain ⟨h4, h⟩ := He.ba h
  obtain ⟨h5, h⟩ := He.ba h
  obtain ⟨h6, h⟩ := He.ba h
  obtain ⟨h7, h⟩ := He.ba h
  obtain ⟨h8, h⟩ := He.ba h
  obtain ⟨h9, h⟩ := He.ba h
  obtain ⟨h10, h⟩ := He.ba h
  obtain ⟨h11, h⟩ := He.ba h
  obtain ⟨h12, h⟩ := He.ba h
  obtain ⟨h13, h⟩ := He.ba h
  obtain ⟨h14, h⟩ := He.ba h
  obtain ⟨h15, h⟩ := He.ba h
  obtain ⟨h16, h⟩ := He.ba h
  obtain ⟨h17, h⟩ := He.ba h
  obtain ⟨h18, h⟩ := He.ba h
  exact ⟨of_decide_eq_true h0, He.eqO_ok h1, Hd.file_ok h2, Hd.cell_ok h3, He.eqO_ok h4, of_decide_eq_true h5, He.eqO_ok h6, He.eqO_ok h7, He.eqO_ok h8, h9, He.eqO_ok h10, of_decide_eq_true h11, of_decide_eq_true h12, of_decide_eq_true h13, of_decide_eq_true h14, of_decide_eq_true h15, of_decide_eq_true h16, of_decide_eq_true h17, of_decide_eq_true h18, of_decide_eq_true h⟩
theorem hdT39 {K : PySem.W.Frag} (h : hdB39 K = true) : (PySem.W.subIn K (.ref (He.ga K "BadLine")) (.ref (He.ga K "UnknownPerson")) = some false) ∧ (PySem.W.subIn K (.ref (He.ga K "BadLine")) (.ref (He.ga K "TooMany")) = some false) ∧ (PySem.W.subIn K (.ref (He.ga K "BadLine")) (.ref (He.ga K "BadPattern")) = some false) ∧ (PySem.W.subIn K (.ref (He.ga K "BadLine")) (.ref (He.ga K "SameWord")) = some false) ∧ (PySem.W.subIn K (.ref (He.ga K "BadLine")) (.ref (He.ga K "UnknownClue")) = some false) ∧ (PySem.W.subIn K (.ref (He.ga K "BadLine")) (.ref (He.ga K "BadPlace")) = some false) ∧ (PySem.W.subIn K (.ref (He.ga K "BadLine")) (.ref (He.ga K "TooLong")) = some false) ∧ (PySem.W.subIn K (.ref (He.ga K "BadLine")) (.ref (He.ga K "Melted")) = some false) ∧ (PySem.W.subIn K (.ref (He.ga K "BadLine")) (.ref (He.ga K "NothingToUndo")) = some false) ∧ (PySem.W.subIn K (.ref (He.ga K "BadLine")) (.ref (He.ga K "NothingToRedo")) = some false) ∧ (PySem.W.subIn K (.ref (He.ga K "BadLine")) (.ref (He.ga K "Refused")) = some false) ∧ (PySem.W.subIn K (.ref (He.ga K "BadLine")) (.ref (He.ga K "MurmurError")) = some true) ∧ (PySem.W.subIn K (.ref (He.ga K "MurmurError")) (.type "BaseException") = some true) ∧ (PySem.W.hasDictIn K (He.ga K "MurmurError") = true) ∧ (PySem.W.keepIn K (.ref (He.ga K "_law_single")) = true) ∧ (PySem.W.nsIn K mainGlobals "_law_single" = some (some (.ref (He.ga K "_law_single")))) := by
  unfold hdB39 at h
  obtain ⟨h0, h⟩ := He.ba h
  obtain ⟨h1, h⟩ := He.ba h
  obtain ⟨h2, h⟩ := He.ba h
  obtain ⟨h3, h⟩ := He.ba h
  obtain ⟨h4, h⟩ := He.ba h
  obtain ⟨h5, h⟩ := He.ba h
  obtain ⟨h6, h⟩ := He.ba h
  obtain ⟨h7, h⟩ := He.ba h
  obtain ⟨h8, h⟩ := He.ba h
  obtain ⟨h9, h⟩ := He.ba h
  obtain ⟨h10, h⟩ := He.ba h
  obtain ⟨h11, h⟩ := He.ba h
  obtain ⟨h12, h⟩ := He.ba h
  obtain ⟨h13, h⟩ := He.ba h
  obtain ⟨h14, h⟩ := He.ba h
  exact ⟨of_decide_eq_true h0, of_decide_eq_true h1, of_decide_eq_true h2, of_decide_eq_true h3, of_decide_eq_true h4, of_decide_eq_true h5, of_decide_eq_true h6, of_decide_eq_true h7, of_decide_eq_true h8, of_decide_eq_true h9, of_decide_eq_true h10, of_decide_eq_true h11, of_decide_eq_true h12, h13, h14, He.eqO_ok h⟩
def hdC (K : PySem.W.Frag) : Nat → Addr := fun n => match n with
  | 0 => (He.ga K "Table")
  | 1 => (He.ga K "Table")
  | 2 => (He.ga K "Table")
  | 3 => (He.ga K "Table")
  | 4 => (He.ga K "Table")
  | 5 => (He.ga K "Table")
  | 6 => (He.ga K "Table")
  | 7 => (He.ga K "Table")
  | 8 => (He.ga K "Table")
  | 99 => He.ga K "MurmurError"
  | 100 => He.ga K "BadSize"
  | 101 => He.ga K "BadTable"
  | 102 => He.ga K "UnknownWord"
  | 103 => He.ga K "SizeMismatch"
  | 104 => He.ga K "BadCount"
  | 105 => He.ga K "BadPerson"
  | 106 => He.ga K "BadLetter"
  | 107 => He.ga K "UnknownPerson"
  | 108 => He.ga K "TooMany"
  | 109 => He.ga K "BadPattern"
  | 110 => He.ga K "SameWord"
  | 111 => He.ga K "UnknownClue"
  | 112 => He.ga K "BadPlace"
  | 113 => He.ga K "TooLong"
  | 114 => He.ga K "Melted"
  | 115 => He.ga K "NothingToUndo"
  | 116 => He.ga K "NothingToRedo"
  | 117 => He.ga K "Refused"
  | 118 => He.ga K "BadLine"
  | _ => 0
theorem hd_al {K : PySem.W.Frag} {h : Heap} {mg : Str → Option Value} (X : K.In h) (G : h.Ns mainGlobals mg) (c : Hd.SaysB hdB hdF K) : Al (PySem.Challenge.rw_murmurline_k77_whole_family_of_errors).prog K mg (hdC K) := by
  have cB := c.bool
  unfold hdB at cB
  obtain ⟨cB0, cB⟩ := He.ba cB
  obtain ⟨q0, q1, q2, q3, q4, q5, q6, q7, q8, q9, q10, q11, q12, q13, q14, q15, q16, q17, q18, q19⟩ := hdT0 cB0
  obtain ⟨cB1, cB⟩ := He.ba cB
  obtain ⟨q20, q21, q22, q23, q24, q25, q26, q27, q28, q29, q30, q31, q32, q33, q34, q35, q36, q37, q38, q39⟩ := hdT1 cB1
  obtain ⟨cB2, cB⟩ := He.ba cB
  obtain ⟨q40, q41, q42, q43, q44, q45, q46, q47, q48, q49, q50, q51, q52, q53, q54, q55, q56, q57, q58, q59⟩ := hdT2 cB2
  obtain ⟨cB3, cB⟩ := He.ba cB
  obtain ⟨q60, q61, q62, q63, q64, q65, q66, q67, q68, q69, q70, q71, q72, q73, q74, q75, q76, q77, q78, q79⟩ := hdT3 cB3
  obtain ⟨cB4, cB⟩ := He.ba cB
  obtain ⟨q80, q81, q82, q83, q84, q85, q86, q87, q88, q89, q90, q91, q92, q93, q94, q95, q96, q97, q98, q99⟩ := hdT4 cB4
  obtain ⟨cB5, cB⟩ := He.ba cB
  obtain ⟨q100, q101, q102, q103, q104, q105, q106, q107, q108, q109, q110, q111, q112, q113, q114, q115, q116, q117, q118, q119⟩ := hdT5 cB5
  obtain ⟨cB6, cB⟩ := He.ba cB
  obtain ⟨q120, q121, q122, q123, q124, q125, q126, q127, q128, q129, q130, q131, q132, q133, q134, q135, q136, q137, q138, q139⟩ := hdT6 cB6
  obtain ⟨cB7, cB⟩ := He.ba cB
  obtain ⟨q140, q141, q142, q143, q144, q145, q146, q147, q148, q149, q150, q151, q152, q153, q154, q155, q156, q157, q158, q159⟩ := hdT7 cB7
  obtain ⟨cB8, cB⟩ := He.ba cB
  obtain ⟨q160, q161, q162, q163, q164, q165, q166, q167, q168, q169, q170, q171, q172, q173, q174, q175, q176, q177, q178, q179⟩ := hdT8 cB8
  obtain ⟨cB9, cB⟩ := He.ba cB
  obtain ⟨q180, q181, q182, q183, q184, q185, q186, q187, q188, q189, q190, q191, q192, q193, q194, q195, q196, q197, q198, q199⟩ := hdT9 cB9
  obtain ⟨cB10, cB⟩ := He.ba cB
  obtain ⟨q200, q201, q202, q203, q204, q205, q206, q207, q208, q209, q210, q211, q212, q213, q214, q215, q216, q217, q218, q219⟩ := hdT10 cB10
  obtain ⟨cB11, cB⟩ := He.ba cB
  obtain ⟨q220, q221, q222, q223, q224, q225, q226, q227, q228, q229, q230, q231, q232, q233, q234, q235, q236, q237, q238, q239⟩ := hdT11 cB11
  obtain ⟨cB12, cB⟩ := He.ba cB
  obtain ⟨q240, q241, q242, q243, q244, q245, q246, q247, q248, q249, q250, q251, q252, q253, q254, q255, q256, q257, q258, q259⟩ := hdT12 cB12
  obtain ⟨cB13, cB⟩ := He.ba cB
  obtain ⟨q260, q261, q262, q263, q264, q265, q266, q267, q268, q269, q270, q271, q272, q273, q274, q275, q276, q277, q278, q279⟩ := hdT13 cB13
  obtain ⟨cB14, cB⟩ := He.ba cB
  obtain ⟨q280, q281, q282, q283, q284, q285, q286, q287, q288, q289, q290, q291, q292, q293, q294, q295, q296, q297, q298, q299⟩ := hdT14 cB14
  obtain ⟨cB15, cB⟩ := He.ba cB
  obtain ⟨q300, q301, q302, q303, q304, q305, q306, q307, q308, q309, q310, q311, q312, q313, q314, q315, q316, q317, q318, q319⟩ := hdT15 cB15
  obtain ⟨cB16, cB⟩ := He.ba cB
  obtain ⟨q320, q321, q322, q323, q324, q325, q326, q327, q328, q329, q330, q331, q332, q333, q334, q335, q336, q337, q338, q339⟩ := hdT16 cB16
  obtain ⟨cB17, cB⟩ := He.ba cB
  obtain ⟨q340, q341, q342, q343, q344, q345, q346, q347, q348, q349, q350, q351, q352, q353, q354, q355, q356, q357, q358, q359⟩ := hdT17 cB17
  obtain ⟨cB18, cB⟩ := He.ba cB
  obtain ⟨q360, q361, q362, q363, q364, q365, q366, q367, q368, q369, q370, q371, q372, q373, q374, q375, q376, q377, q378, q379⟩ := hdT18 cB18
  obtain ⟨cB19, cB⟩ := He.ba cB
  obtain ⟨q380, q381, q382, q383, q384, q385, q386, q387, q388, q389, q390, q391, q392, q393, q394, q395, q396, q397, q398, q399⟩ := hdT19 cB19
  obtain ⟨cB20, cB⟩ := He.ba cB
  obtain ⟨q400, q401, q402, q403, q404, q405, q406, q407, q408, q409, q410, q411, q412, q413, q414, q415, q416, q417, q418, q419⟩ := hdT20 cB20
  obtain ⟨cB21, cB⟩ := He.ba cB
  obtain ⟨q420, q421, q422, q423, q424, q425, q426, q427, q428, q429, q430, q431, q432, q433, q434, q435, q436, q437, q438, q439⟩ := hdT21 cB21
  obtain ⟨cB22, cB⟩ := He.ba cB
  obtain ⟨q440, q441, q442, q443, q444, q445, q446, q447, q448, q449, q450, q451, q452, q453, q454, q455, q456, q457, q458, q459⟩ := hdT22 cB22
  obtain ⟨cB23, cB⟩ := He.ba cB
  obtain ⟨q460, q461, q462, q463, q464, q465, q466, q467, q468, q469, q470, q471, q472, q473, q474, q475, q476, q477, q478, q479⟩ := hdT23 cB23
  obtain ⟨cB24, cB⟩ := He.ba cB
  obtain ⟨q480, q481, q482, q483, q484, q485, q486, q487, q488, q489, q490, q491, q492, q493, q494, q495, q496, q497, q498, q499⟩ := hdT24 cB24
  obtain ⟨cB25, cB⟩ := He.ba cB
  obtain ⟨q500, q501, q502, q503, q504, q505, q506, q507, q508, q509, q510, q511, q512, q513, q514, q515, q516, q517, q518, q519⟩ := hdT25 cB25
  obtain ⟨cB26, cB⟩ := He.ba cB
  obtain ⟨q520, q521, q522, q523, q524, q525, q526, q527, q528, q529, q530, q531, q532, q533, q534, q535, q536, q537, q538, q539⟩ := hdT26 cB26
  obtain ⟨cB27, cB⟩ := He.ba cB
  obtain ⟨q540, q541, q542, q543, q544, q545, q546, q547, q548, q549, q550, q551, q552, q553, q554, q555, q556, q557, q558, q559⟩ := hdT27 cB27
  obtain ⟨cB28, cB⟩ := He.ba cB
  obtain ⟨q560, q561, q562, q563, q564, q565, q566, q567, q568, q569, q570, q571, q572, q573, q574, q575, q576, q577, q578, q579⟩ := hdT28 cB28
  obtain ⟨cB29, cB⟩ := He.ba cB
  obtain ⟨q580, q581, q582, q583, q584, q585, q586, q587, q588, q589, q590, q591, q592, q593, q594, q595, q596, q597, q598, q599⟩ := hdT29 cB29
  obtain ⟨cB30, cB⟩ := He.ba cB
  obtain ⟨q600, q601, q602, q603, q604, q605, q606, q607, q608, q609, q610, q611, q612, q613, q614, q615, q616, q617, q618, q619⟩ := hdT30 cB30
  obtain ⟨cB31, cB⟩ := He.ba cB
  obtain ⟨q620, q621, q622, q623, q624, q625, q626, q627, q628, q629, q630, q631, q632, q633, q634, q635, q636, q637, q638, q639⟩ := hdT31 cB31
  obtain ⟨cB32, cB⟩ := He.ba cB
  obtain ⟨q640, q641, q642, q643, q644, q645, q646, q647, q648, q649, q650, q651, q652, q653, q654, q655, q656, q657, q658, q659⟩ := hdT32 cB32
  obtain ⟨cB33, cB⟩ := He.ba cB
  obtain ⟨q660, q661, q662, q663, q664, q665, q666, q667, q668, q669, q670, q671, q672, q673, q674, q675, q676, q677, q678, q679⟩ := hdT33 cB33
  obtain ⟨cB34, cB⟩ := He.ba cB
  obtain ⟨q680, q681, q682, q683, q684, q685, q686, q687, q688, q689, q690, q691, q692, q693, q694, q695, q696, q697, q698, q699⟩ := hdT34 cB34
  obtain ⟨cB35, cB⟩ := He.ba cB
  obtain ⟨q700, q701, q702, q703, q704, q705, q706, q707, q708, q709, q710, q711, q712, q713, q714, q715, q716, q717, q718, q719⟩ := hdT35 cB35
  obtain ⟨cB36, cB⟩ := He.ba cB
  obtain ⟨q720, q721, q722, q723, q724, q725, q726, q727, q728, q729, q730, q731, q732, q733, q734, q735, q736, q737, q738, q739⟩ := hdT36 cB36
  obtain ⟨cB37, cB⟩ := He.ba cB
  obtain ⟨q740, q741, q742, q743, q744, q745, q746, q747, q748, q749, q750, q751, q752, q753, q754, q755, q756, q757, q758, q759⟩ := hdT37 cB37
  obtain ⟨cB38, cB⟩ := He.ba cB
  obtain ⟨q760, q761, q762, q763, q764, q765, q766, q767, q768, q769, q770, q771, q772, q773, q774, q775, q776, q777, q778, q779⟩ := hdT38 cB38
  obtain ⟨q780, q781, q782, q783, q784, q785, q786, q787, q788, q789, q790, q791, q792, q793, q794, q795⟩ := hdT39 cB
  obtain ⟨fd0, F0⟩ := Hd.fun_of (st := s__law_box) (c.def_ 0 (d := hdF0) rfl).1 (c.def_ 0 (d := hdF0) rfl).2 q4
  obtain ⟨fd1, F1⟩ := Hd.fun_of (st := s__law_take) (c.def_ 1 (d := hdF1) rfl).1 (c.def_ 1 (d := hdF1) rfl).2 q6
  obtain ⟨fd2, F2⟩ := Hd.fun_of (st := s__law_letters) (c.def_ 2 (d := hdF2) rfl).1 (c.def_ 2 (d := hdF2) rfl).2 q8
  obtain ⟨fd3, F3⟩ := Hd.fun_of (st := s__law_second) (c.def_ 3 (d := hdF3) rfl).1 (c.def_ 3 (d := hdF3) rfl).2 q10
  obtain ⟨fd4, F4⟩ := Hd.fun_of (st := s__law_late) (c.def_ 4 (d := hdF4) rfl).1 (c.def_ 4 (d := hdF4) rfl).2 q12
  obtain ⟨fd5, F5⟩ := Hd.fun_of (st := s__law_first) (c.def_ 5 (d := hdF5) rfl).1 (c.def_ 5 (d := hdF5) rfl).2 q14
  obtain ⟨fd6, F6⟩ := Hd.fun_of (st := s__law_early) (c.def_ 6 (d := hdF6) rfl).1 (c.def_ 6 (d := hdF6) rfl).2 q16
  obtain ⟨fd7, F7⟩ := Hd.fun_of (st := s__law_as_base) (c.def_ 7 (d := hdF7) rfl).1 (c.def_ 7 (d := hdF7) rfl).2 q18
  obtain ⟨fd8, F8⟩ := Hd.fun_of (st := s_law_k77) (c.def_ 8 (d := hdF8) rfl).1 (c.def_ 8 (d := hdF8) rfl).2 q20
  obtain ⟨nm9, qq9, N9, bs9, bm9, sn9, su9, ab9, cc9, dd9, ka9, kb9, kc9, kd9, ke9, lC9, rV9⟩ := q46
  have O9 := Hd.oex_mk lC9 rV9 q47 q48 q49 q50
  obtain ⟨eo9, ey9, es9, eV9, ed9, ep9, ez9, et9, lk9, cd9⟩ := Hd.fnx_sup (c.def_ 9 (d := hdF9) rfl).1 (c.def_ 9 (d := hdF9) rfl).2
  obtain ⟨ek9, ew9, ev9, er9, ef9, eg9, lc9, vs9, fl9⟩ := q56
  obtain ⟨el9, eu9, eq9, ce9⟩ := q57
  have T9 := Hd.ert_mk (P := (PySem.Challenge.rw_murmurline_k77_whole_family_of_errors).prog) (mg := mg) (st := sBadSizeI) O9 q51 (PySem.W.mg_none_of X G q54) rfl q55 q53 q52 lk9 cd9 lc9 vs9 fl9 ce9 q58 q59
  obtain ⟨nm10, qq10, N10, bs10, bm10, sn10, su10, ab10, cc10, dd10, ka10, kb10, kc10, kd10, ke10, lC10, rV10⟩ := q125
  have O10 := Hd.oex_mk lC10 rV10 q126 q127 q69 q128
  obtain ⟨eo10, ey10, es10, eV10, ed10, ep10, ez10, et10, lk10, cd10⟩ := Hd.fnx_sup (c.def_ 10 (d := hdF10) rfl).1 (c.def_ 10 (d := hdF10) rfl).2
  obtain ⟨ek10, ew10, ev10, er10, ef10, eg10, lc10, vs10, fl10⟩ := q132
  obtain ⟨el10, eu10, eq10, ce10⟩ := q133
  have T10 := Hd.ert_mk (P := (PySem.Challenge.rw_murmurline_k77_whole_family_of_errors).prog) (mg := mg) (st := sBadTableI) O10 q129 (PySem.W.mg_none_of X G q54) rfl q55 q131 q130 lk10 cd10 lc10 vs10 fl10 ce10 q134 q135
  obtain ⟨nm11, qq11, N11, bs11, bm11, sn11, su11, ab11, cc11, dd11, ka11, kb11, kc11, kd11, ke11, lC11, rV11⟩ := q162
  have O11 := Hd.oex_mk lC11 rV11 q163 q164 q72 q165
  obtain ⟨eo11, ey11, es11, eV11, ed11, ep11, ez11, et11, lk11, cd11⟩ := Hd.fnx_sup (c.def_ 11 (d := hdF11) rfl).1 (c.def_ 11 (d := hdF11) rfl).2
  obtain ⟨ek11, ew11, ev11, er11, ef11, eg11, lc11, vs11, fl11⟩ := q169
  obtain ⟨el11, eu11, eq11, ce11⟩ := q170
  have T11 := Hd.ert_mk (P := (PySem.Challenge.rw_murmurline_k77_whole_family_of_errors).prog) (mg := mg) (st := sUnknownWordI) O11 q166 (PySem.W.mg_none_of X G q54) rfl q55 q168 q167 lk11 cd11 lc11 vs11 fl11 ce11 q171 q172
  obtain ⟨nm12, qq12, N12, bs12, bm12, sn12, su12, ab12, cc12, dd12, ka12, kb12, kc12, kd12, ke12, lC12, rV12⟩ := q199
  have O12 := Hd.oex_mk lC12 rV12 q200 q201 q75 q202
  obtain ⟨eo12, ey12, es12, eV12, ed12, ep12, ez12, et12, lk12, cd12⟩ := Hd.fnx_sup (c.def_ 12 (d := hdF12) rfl).1 (c.def_ 12 (d := hdF12) rfl).2
  obtain ⟨ek12, ew12, ev12, er12, ef12, eg12, lc12, vs12, fl12⟩ := q206
  obtain ⟨el12, eu12, eq12, ce12⟩ := q207
  have T12 := Hd.ert_mk (P := (PySem.Challenge.rw_murmurline_k77_whole_family_of_errors).prog) (mg := mg) (st := sSizeMismatchI) O12 q203 (PySem.W.mg_none_of X G q54) rfl q55 q205 q204 lk12 cd12 lc12 vs12 fl12 ce12 q208 q209
  obtain ⟨nm13, qq13, N13, bs13, bm13, sn13, su13, ab13, cc13, dd13, ka13, kb13, kc13, kd13, ke13, lC13, rV13⟩ := q237
  have O13 := Hd.oex_mk lC13 rV13 q238 q239 q78 q240
  obtain ⟨eo13, ey13, es13, eV13, ed13, ep13, ez13, et13, lk13, cd13⟩ := Hd.fnx_sup (c.def_ 13 (d := hdF13) rfl).1 (c.def_ 13 (d := hdF13) rfl).2
  obtain ⟨ek13, ew13, ev13, er13, ef13, eg13, lc13, vs13, fl13⟩ := q244
  obtain ⟨el13, eu13, eq13, ce13⟩ := q245
  have T13 := Hd.ert_mk (P := (PySem.Challenge.rw_murmurline_k77_whole_family_of_errors).prog) (mg := mg) (st := sBadCountI) O13 q241 (PySem.W.mg_none_of X G q54) rfl q55 q243 q242 lk13 cd13 lc13 vs13 fl13 ce13 q246 q247
  obtain ⟨nm14, qq14, N14, bs14, bm14, sn14, su14, ab14, cc14, dd14, ka14, kb14, kc14, kd14, ke14, lC14, rV14⟩ := q274
  have O14 := Hd.oex_mk lC14 rV14 q275 q276 q81 q277
  obtain ⟨eo14, ey14, es14, eV14, ed14, ep14, ez14, et14, lk14, cd14⟩ := Hd.fnx_sup (c.def_ 14 (d := hdF14) rfl).1 (c.def_ 14 (d := hdF14) rfl).2
  obtain ⟨ek14, ew14, ev14, er14, ef14, eg14, lc14, vs14, fl14⟩ := q281
  obtain ⟨el14, eu14, eq14, ce14⟩ := q282
  have T14 := Hd.ert_mk (P := (PySem.Challenge.rw_murmurline_k77_whole_family_of_errors).prog) (mg := mg) (st := sBadPersonI) O14 q278 (PySem.W.mg_none_of X G q54) rfl q55 q280 q279 lk14 cd14 lc14 vs14 fl14 ce14 q283 q284
  obtain ⟨nm15, qq15, N15, bs15, bm15, sn15, su15, ab15, cc15, dd15, ka15, kb15, kc15, kd15, ke15, lC15, rV15⟩ := q311
  have O15 := Hd.oex_mk lC15 rV15 q312 q313 q84 q314
  obtain ⟨eo15, ey15, es15, eV15, ed15, ep15, ez15, et15, lk15, cd15⟩ := Hd.fnx_sup (c.def_ 15 (d := hdF15) rfl).1 (c.def_ 15 (d := hdF15) rfl).2
  obtain ⟨ek15, ew15, ev15, er15, ef15, eg15, lc15, vs15, fl15⟩ := q318
  obtain ⟨el15, eu15, eq15, ce15⟩ := q319
  have T15 := Hd.ert_mk (P := (PySem.Challenge.rw_murmurline_k77_whole_family_of_errors).prog) (mg := mg) (st := sBadLetterI) O15 q315 (PySem.W.mg_none_of X G q54) rfl q55 q317 q316 lk15 cd15 lc15 vs15 fl15 ce15 q320 q321
  obtain ⟨nm16, qq16, N16, bs16, bm16, sn16, su16, ab16, cc16, dd16, ka16, kb16, kc16, kd16, ke16, lC16, rV16⟩ := q348
  have O16 := Hd.oex_mk lC16 rV16 q349 q350 q87 q351
  obtain ⟨eo16, ey16, es16, eV16, ed16, ep16, ez16, et16, lk16, cd16⟩ := Hd.fnx_sup (c.def_ 16 (d := hdF16) rfl).1 (c.def_ 16 (d := hdF16) rfl).2
  obtain ⟨ek16, ew16, ev16, er16, ef16, eg16, lc16, vs16, fl16⟩ := q355
  obtain ⟨el16, eu16, eq16, ce16⟩ := q356
  have T16 := Hd.ert_mk (P := (PySem.Challenge.rw_murmurline_k77_whole_family_of_errors).prog) (mg := mg) (st := sUnknownPersonI) O16 q352 (PySem.W.mg_none_of X G q54) rfl q55 q354 q353 lk16 cd16 lc16 vs16 fl16 ce16 q357 q358
  obtain ⟨nm17, qq17, N17, bs17, bm17, sn17, su17, ab17, cc17, dd17, ka17, kb17, kc17, kd17, ke17, lC17, rV17⟩ := q386
  have O17 := Hd.oex_mk lC17 rV17 q387 q388 q90 q389
  obtain ⟨eo17, ey17, es17, eV17, ed17, ep17, ez17, et17, lk17, cd17⟩ := Hd.fnx_sup (c.def_ 17 (d := hdF17) rfl).1 (c.def_ 17 (d := hdF17) rfl).2
  obtain ⟨ek17, ew17, ev17, er17, ef17, eg17, lc17, vs17, fl17⟩ := q393
  obtain ⟨el17, eu17, eq17, ce17⟩ := q394
  have T17 := Hd.ert_mk (P := (PySem.Challenge.rw_murmurline_k77_whole_family_of_errors).prog) (mg := mg) (st := sTooManyI) O17 q390 (PySem.W.mg_none_of X G q54) rfl q55 q392 q391 lk17 cd17 lc17 vs17 fl17 ce17 q395 q396
  obtain ⟨nm18, qq18, N18, bs18, bm18, sn18, su18, ab18, cc18, dd18, ka18, kb18, kc18, kd18, ke18, lC18, rV18⟩ := q423
  have O18 := Hd.oex_mk lC18 rV18 q424 q425 q93 q426
  obtain ⟨eo18, ey18, es18, eV18, ed18, ep18, ez18, et18, lk18, cd18⟩ := Hd.fnx_sup (c.def_ 18 (d := hdF18) rfl).1 (c.def_ 18 (d := hdF18) rfl).2
  obtain ⟨ek18, ew18, ev18, er18, ef18, eg18, lc18, vs18, fl18⟩ := q430
  obtain ⟨el18, eu18, eq18, ce18⟩ := q431
  have T18 := Hd.ert_mk (P := (PySem.Challenge.rw_murmurline_k77_whole_family_of_errors).prog) (mg := mg) (st := sBadPatternI) O18 q427 (PySem.W.mg_none_of X G q54) rfl q55 q429 q428 lk18 cd18 lc18 vs18 fl18 ce18 q432 q433
  obtain ⟨nm19, qq19, N19, bs19, bm19, sn19, su19, ab19, cc19, dd19, ka19, kb19, kc19, kd19, ke19, lC19, rV19⟩ := q460
  have O19 := Hd.oex_mk lC19 rV19 q461 q462 q96 q463
  obtain ⟨eo19, ey19, es19, eV19, ed19, ep19, ez19, et19, lk19, cd19⟩ := Hd.fnx_sup (c.def_ 19 (d := hdF19) rfl).1 (c.def_ 19 (d := hdF19) rfl).2
  obtain ⟨ek19, ew19, ev19, er19, ef19, eg19, lc19, vs19, fl19⟩ := q467
  obtain ⟨el19, eu19, eq19, ce19⟩ := q468
  have T19 := Hd.ert_mk (P := (PySem.Challenge.rw_murmurline_k77_whole_family_of_errors).prog) (mg := mg) (st := sSameWordI) O19 q464 (PySem.W.mg_none_of X G q54) rfl q55 q466 q465 lk19 cd19 lc19 vs19 fl19 ce19 q469 q470
  obtain ⟨nm20, qq20, N20, bs20, bm20, sn20, su20, ab20, cc20, dd20, ka20, kb20, kc20, kd20, ke20, lC20, rV20⟩ := q497
  have O20 := Hd.oex_mk lC20 rV20 q498 q499 q99 q500
  obtain ⟨eo20, ey20, es20, eV20, ed20, ep20, ez20, et20, lk20, cd20⟩ := Hd.fnx_sup (c.def_ 20 (d := hdF20) rfl).1 (c.def_ 20 (d := hdF20) rfl).2
  obtain ⟨ek20, ew20, ev20, er20, ef20, eg20, lc20, vs20, fl20⟩ := q504
  obtain ⟨el20, eu20, eq20, ce20⟩ := q505
  have T20 := Hd.ert_mk (P := (PySem.Challenge.rw_murmurline_k77_whole_family_of_errors).prog) (mg := mg) (st := sUnknownClueI) O20 q501 (PySem.W.mg_none_of X G q54) rfl q55 q503 q502 lk20 cd20 lc20 vs20 fl20 ce20 q506 q507
  obtain ⟨nm21, qq21, N21, bs21, bm21, sn21, su21, ab21, cc21, dd21, ka21, kb21, kc21, kd21, ke21, lC21, rV21⟩ := q534
  have O21 := Hd.oex_mk lC21 rV21 q535 q536 q102 q537
  obtain ⟨eo21, ey21, es21, eV21, ed21, ep21, ez21, et21, lk21, cd21⟩ := Hd.fnx_sup (c.def_ 21 (d := hdF21) rfl).1 (c.def_ 21 (d := hdF21) rfl).2
  obtain ⟨ek21, ew21, ev21, er21, ef21, eg21, lc21, vs21, fl21⟩ := q541
  obtain ⟨el21, eu21, eq21, ce21⟩ := q542
  have T21 := Hd.ert_mk (P := (PySem.Challenge.rw_murmurline_k77_whole_family_of_errors).prog) (mg := mg) (st := sBadPlaceI) O21 q538 (PySem.W.mg_none_of X G q54) rfl q55 q540 q539 lk21 cd21 lc21 vs21 fl21 ce21 q543 q544
  obtain ⟨nm22, qq22, N22, bs22, bm22, sn22, su22, ab22, cc22, dd22, ka22, kb22, kc22, kd22, ke22, lC22, rV22⟩ := q571
  have O22 := Hd.oex_mk lC22 rV22 q572 q573 q105 q574
  obtain ⟨eo22, ey22, es22, eV22, ed22, ep22, ez22, et22, lk22, cd22⟩ := Hd.fnx_sup (c.def_ 22 (d := hdF22) rfl).1 (c.def_ 22 (d := hdF22) rfl).2
  obtain ⟨ek22, ew22, ev22, er22, ef22, eg22, lc22, vs22, fl22⟩ := q578
  obtain ⟨el22, eu22, eq22, ce22⟩ := q579
  have T22 := Hd.ert_mk (P := (PySem.Challenge.rw_murmurline_k77_whole_family_of_errors).prog) (mg := mg) (st := sTooLongI) O22 q575 (PySem.W.mg_none_of X G q54) rfl q55 q577 q576 lk22 cd22 lc22 vs22 fl22 ce22 q580 q581
  obtain ⟨nm23, qq23, N23, bs23, bm23, sn23, su23, ab23, cc23, dd23, ka23, kb23, kc23, kd23, ke23, lC23, rV23⟩ := q608
  have O23 := Hd.oex_mk lC23 rV23 q609 q610 q108 q611
  obtain ⟨eo23, ey23, es23, eV23, ed23, ep23, ez23, et23, lk23, cd23⟩ := Hd.fnx_sup (c.def_ 23 (d := hdF23) rfl).1 (c.def_ 23 (d := hdF23) rfl).2
  obtain ⟨ek23, ew23, ev23, er23, ef23, eg23, lc23, vs23, fl23⟩ := q615
  obtain ⟨el23, eu23, eq23, ce23⟩ := q616
  have T23 := Hd.ert_mk (P := (PySem.Challenge.rw_murmurline_k77_whole_family_of_errors).prog) (mg := mg) (st := sMeltedI) O23 q612 (PySem.W.mg_none_of X G q54) rfl q55 q614 q613 lk23 cd23 lc23 vs23 fl23 ce23 q617 q618
  obtain ⟨nm24, qq24, N24, bs24, bm24, sn24, su24, ab24, cc24, dd24, ka24, kb24, kc24, kd24, ke24, lC24, rV24⟩ := q646
  have O24 := Hd.oex_mk lC24 rV24 q647 q648 q111 q649
  obtain ⟨eo24, ey24, es24, eV24, ed24, ep24, ez24, et24, lk24, cd24⟩ := Hd.fnx_sup (c.def_ 24 (d := hdF24) rfl).1 (c.def_ 24 (d := hdF24) rfl).2
  obtain ⟨ek24, ew24, ev24, er24, ef24, eg24, lc24, vs24, fl24⟩ := q653
  obtain ⟨el24, eu24, eq24, ce24⟩ := q654
  have T24 := Hd.ert_mk (P := (PySem.Challenge.rw_murmurline_k77_whole_family_of_errors).prog) (mg := mg) (st := sNothingToUndoI) O24 q650 (PySem.W.mg_none_of X G q54) rfl q55 q652 q651 lk24 cd24 lc24 vs24 fl24 ce24 q655 q656
  obtain ⟨nm25, qq25, N25, bs25, bm25, sn25, su25, ab25, cc25, dd25, ka25, kb25, kc25, kd25, ke25, lC25, rV25⟩ := q682
  have O25 := Hd.oex_mk lC25 rV25 q683 q684 q114 q685
  obtain ⟨eo25, ey25, es25, eV25, ed25, ep25, ez25, et25, lk25, cd25⟩ := Hd.fnx_sup (c.def_ 25 (d := hdF25) rfl).1 (c.def_ 25 (d := hdF25) rfl).2
  obtain ⟨ek25, ew25, ev25, er25, ef25, eg25, lc25, vs25, fl25⟩ := q689
  obtain ⟨el25, eu25, eq25, ce25⟩ := q690
  have T25 := Hd.ert_mk (P := (PySem.Challenge.rw_murmurline_k77_whole_family_of_errors).prog) (mg := mg) (st := sNothingToRedoI) O25 q686 (PySem.W.mg_none_of X G q54) rfl q55 q688 q687 lk25 cd25 lc25 vs25 fl25 ce25 q691 q692
  obtain ⟨nm26, qq26, N26, bs26, bm26, sn26, su26, ab26, cc26, dd26, ka26, kb26, kc26, kd26, ke26, lC26, rV26⟩ := q718
  have O26 := Hd.oex_mk lC26 rV26 q719 q720 q117 q721
  obtain ⟨eo26, ey26, es26, eV26, ed26, ep26, ez26, et26, lk26, cd26⟩ := Hd.fnx_sup (c.def_ 26 (d := hdF26) rfl).1 (c.def_ 26 (d := hdF26) rfl).2
  obtain ⟨ek26, ew26, ev26, er26, ef26, eg26, lc26, vs26, fl26⟩ := q725
  obtain ⟨el26, eu26, eq26, ce26⟩ := q726
  have T26 := Hd.ert_mk (P := (PySem.Challenge.rw_murmurline_k77_whole_family_of_errors).prog) (mg := mg) (st := sRefusedI) O26 q722 (PySem.W.mg_none_of X G q54) rfl q55 q724 q723 lk26 cd26 lc26 vs26 fl26 ce26 q727 q728
  obtain ⟨nm27, qq27, N27, bs27, bm27, sn27, su27, ab27, cc27, dd27, ka27, kb27, kc27, kd27, ke27, lC27, rV27⟩ := q755
  have O27 := Hd.oex_mk lC27 rV27 q756 q757 q120 q758
  obtain ⟨eo27, ey27, es27, eV27, ed27, ep27, ez27, et27, lk27, cd27⟩ := Hd.fnx_sup (c.def_ 27 (d := hdF27) rfl).1 (c.def_ 27 (d := hdF27) rfl).2
  obtain ⟨ek27, ew27, ev27, er27, ef27, eg27, lc27, vs27, fl27⟩ := q762
  obtain ⟨el27, eu27, eq27, ce27⟩ := q763
  have T27 := Hd.ert_mk (P := (PySem.Challenge.rw_murmurline_k77_whole_family_of_errors).prog) (mg := mg) (st := sBadLineI) O27 q759 (PySem.W.mg_none_of X G q54) rfl q55 q761 q760 lk27 cd27 lc27 vs27 fl27 ce27 q764 q765
  obtain ⟨fd28, F28⟩ := Hd.fun_of (st := s__law_single) (c.def_ 28 (d := hdF28) rfl).1 (c.def_ 28 (d := hdF28) rfl).2 q794
  exact {
    B := ⟨(PySem.W.mg_none_of X G q0), (PySem.W.mg_none_of X G q1), (PySem.W.mg_none_of X G q2), (PySem.W.mg_none_of X G q3)⟩,
    f__law_box := ⟨(He.ga K "_law_box"), fd0, F0, (PySem.W.mg_of X G q5), F0.binds (ps := ["_law_script"]) fun _ _ _ _ _ _ us hl => match us, hl with | [_], _ => rfl⟩,
    f__law_take := ⟨(He.ga K "_law_take"), fd1, F1, (PySem.W.mg_of X G q7), F1.binds (ps := ["_law_box_here", "_law_many"]) fun _ _ _ _ _ _ us hl => match us, hl with | [_, _], _ => rfl⟩,
    f__law_letters := ⟨(He.ga K "_law_letters"), fd2, F2, (PySem.W.mg_of X G q9), F2.binds (ps := ["_law_box_here", "_law_many"]) fun _ _ _ _ _ _ us hl => match us, hl with | [_, _], _ => rfl⟩,
    f__law_second := ⟨(He.ga K "_law_second"), fd3, F3, (PySem.W.mg_of X G q11), F3.binds (ps := ["_law_which", "_law_one", "_law_two"]) fun _ _ _ _ _ _ us hl => match us, hl with | [_, _, _], _ => rfl⟩,
    f__law_late := ⟨(He.ga K "_law_late"), fd4, F4, (PySem.W.mg_of X G q13), F4.binds (ps := ["_law_which", "_law_one", "_law_two"]) fun _ _ _ _ _ _ us hl => match us, hl with | [_, _, _], _ => rfl⟩,
    f__law_first := ⟨(He.ga K "_law_first"), fd5, F5, (PySem.W.mg_of X G q15), F5.binds (ps := ["_law_which", "_law_one", "_law_two", "_law_text"]) fun _ _ _ _ _ _ us hl => match us, hl with | [_, _, _, _], _ => rfl⟩,
    f__law_early := ⟨(He.ga K "_law_early"), fd6, F6, (PySem.W.mg_of X G q17), F6.binds (ps := ["_law_which", "_law_one", "_law_two", "_law_text"]) fun _ _ _ _ _ _ us hl => match us, hl with | [_, _, _, _], _ => rfl⟩,
    f__law_as_base := ⟨(He.ga K "_law_as_base"), fd7, F7, (PySem.W.mg_of X G q19), F7.binds (ps := ["_law_which", "_law_one", "_law_two", "_law_text"]) fun _ _ _ _ _ _ us hl => match us, hl with | [_, _, _, _], _ => rfl⟩,
    f_law_k77 := ⟨(He.ga K "law"), fd8, F8, (PySem.W.mg_of X G q21), F8.binds (ps := ["_law_script"]) fun _ _ _ _ _ _ us hl => match us, hl with | [_], _ => rfl⟩,
    errG := ⟨(PySem.W.mg_of X G q22), (PySem.W.mg_of X G q23), (PySem.W.mg_of X G q24), (PySem.W.mg_of X G q25), (PySem.W.mg_of X G q26), (PySem.W.mg_of X G q27), (PySem.W.mg_of X G q28), (PySem.W.mg_of X G q29), (PySem.W.mg_of X G q30), (PySem.W.mg_of X G q31), (PySem.W.mg_of X G q32), (PySem.W.mg_of X G q33), (PySem.W.mg_of X G q34), (PySem.W.mg_of X G q35), (PySem.W.mg_of X G q36), (PySem.W.mg_of X G q37), (PySem.W.mg_of X G q38), (PySem.W.mg_of X G q39), (PySem.W.mg_of X G q40), (PySem.W.mg_of X G q41), (PySem.W.mg_none_of X G q42), (PySem.W.mg_none_of X G q43), (PySem.W.mg_none_of X G q2)⟩,
    e_BadSize := ⟨⟨O9, (PySem.W.mg_of X G q23), _, _, q58, q59, .all fun us hl => match us, hl with | [_, _], _ => rfl, fun w base => ok_BadSizeI T9 q60⟩, ⟨⟨q61, q62, q48, q63, q64, q44, q45, q65⟩, Hd.kit_own q66 q122 q123 q124, Hd.kitV_ty q52, true, false, false, false, false, false, false, false, false, false, false, false, false, false, false, false, false, false, false, Hd.kit_own q66 q67 q49 q66, Hd.kit_own q66 q68 q69 q70, Hd.kit_own q66 q71 q72 q73, Hd.kit_own q66 q74 q75 q76, Hd.kit_own q66 q77 q78 q79, Hd.kit_own q66 q80 q81 q82, Hd.kit_own q66 q83 q84 q85, Hd.kit_own q66 q86 q87 q88, Hd.kit_own q66 q89 q90 q91, Hd.kit_own q66 q92 q93 q94, Hd.kit_own q66 q95 q96 q97, Hd.kit_own q66 q98 q99 q100, Hd.kit_own q66 q101 q102 q103, Hd.kit_own q66 q104 q105 q106, Hd.kit_own q66 q107 q108 q109, Hd.kit_own q66 q110 q111 q112, Hd.kit_own q66 q113 q114 q115, Hd.kit_own q66 q116 q117 q118, Hd.kit_own q66 q119 q120 q121, by decide⟩, fun n hn => by
      rcases List.mem_cons.mp hn with e | hn
      · rw [e]; exact q60
      cases hn⟩,
    e_BadTable := ⟨⟨O10, (PySem.W.mg_of X G q24), _, _, q134, q135, .all fun us hl => match us, hl with | [_, _], _ => rfl, fun w base => ok_BadTableI T10 q136⟩, ⟨⟨q137, q138, q127, q139, q140, q44, q45, q141⟩, Hd.kit_own q142 q122 q123 q161, Hd.kitV_ty q130, false, true, false, false, false, false, false, false, false, false, false, false, false, false, false, false, false, false, false, Hd.kit_own q142 q67 q49 q143, Hd.kit_own q142 q68 q69 q142, Hd.kit_own q142 q71 q72 q144, Hd.kit_own q142 q74 q75 q145, Hd.kit_own q142 q77 q78 q146, Hd.kit_own q142 q80 q81 q147, Hd.kit_own q142 q83 q84 q148, Hd.kit_own q142 q86 q87 q149, Hd.kit_own q142 q89 q90 q150, Hd.kit_own q142 q92 q93 q151, Hd.kit_own q142 q95 q96 q152, Hd.kit_own q142 q98 q99 q153, Hd.kit_own q142 q101 q102 q154, Hd.kit_own q142 q104 q105 q155, Hd.kit_own q142 q107 q108 q156, Hd.kit_own q142 q110 q111 q157, Hd.kit_own q142 q113 q114 q158, Hd.kit_own q142 q116 q117 q159, Hd.kit_own q142 q119 q120 q160, by decide⟩, fun n hn => by
      rcases List.mem_cons.mp hn with e | hn
      · rw [e]; exact q136
      cases hn⟩,
    e_UnknownWord := ⟨⟨O11, (PySem.W.mg_of X G q25), _, _, q171, q172, .all fun us hl => match us, hl with | [_, _], _ => rfl, fun w base => ok_UnknownWordI T11 q173⟩, ⟨⟨q174, q175, q164, q176, q177, q44, q45, q178⟩, Hd.kit_own q179 q122 q123 q198, Hd.kitV_ty q167, false, false, true, false, false, false, false, false, false, false, false, false, false, false, false, false, false, false, false, Hd.kit_own q179 q67 q49 q180, Hd.kit_own q179 q68 q69 q181, Hd.kit_own q179 q71 q72 q179, Hd.kit_own q179 q74 q75 q182, Hd.kit_own q179 q77 q78 q183, Hd.kit_own q179 q80 q81 q184, Hd.kit_own q179 q83 q84 q185, Hd.kit_own q179 q86 q87 q186, Hd.kit_own q179 q89 q90 q187, Hd.kit_own q179 q92 q93 q188, Hd.kit_own q179 q95 q96 q189, Hd.kit_own q179 q98 q99 q190, Hd.kit_own q179 q101 q102 q191, Hd.kit_own q179 q104 q105 q192, Hd.kit_own q179 q107 q108 q193, Hd.kit_own q179 q110 q111 q194, Hd.kit_own q179 q113 q114 q195, Hd.kit_own q179 q116 q117 q196, Hd.kit_own q179 q119 q120 q197, by decide⟩, fun n hn => by
      rcases List.mem_cons.mp hn with e | hn
      · rw [e]; exact q173
      cases hn⟩,
    e_SizeMismatch := ⟨⟨O12, (PySem.W.mg_of X G q26), _, _, q208, q209, .all fun us hl => match us, hl with | [_, _, _], _ => rfl, fun w base => ok_SizeMismatchI T12 q210 q211⟩, ⟨⟨q212, q213, q201, q214, q215, q44, q45, q216⟩, Hd.kit_own q217 q122 q123 q236, Hd.kitV_ty q204, false, false, false, true, false, false, false, false, false, false, false, false, false, false, false, false, false, false, false, Hd.kit_own q217 q67 q49 q218, Hd.kit_own q217 q68 q69 q219, Hd.kit_own q217 q71 q72 q220, Hd.kit_own q217 q74 q75 q217, Hd.kit_own q217 q77 q78 q221, Hd.kit_own q217 q80 q81 q222, Hd.kit_own q217 q83 q84 q223, Hd.kit_own q217 q86 q87 q224, Hd.kit_own q217 q89 q90 q225, Hd.kit_own q217 q92 q93 q226, Hd.kit_own q217 q95 q96 q227, Hd.kit_own q217 q98 q99 q228, Hd.kit_own q217 q101 q102 q229, Hd.kit_own q217 q104 q105 q230, Hd.kit_own q217 q107 q108 q231, Hd.kit_own q217 q110 q111 q232, Hd.kit_own q217 q113 q114 q233, Hd.kit_own q217 q116 q117 q234, Hd.kit_own q217 q119 q120 q235, by decide⟩, fun n hn => by
      rcases List.mem_cons.mp hn with e | hn
      · rw [e]; exact q210
      rcases List.mem_cons.mp hn with e | hn
      · rw [e]; exact q211
      cases hn⟩,
    e_BadCount := ⟨⟨O13, (PySem.W.mg_of X G q27), _, _, q246, q247, .all fun us hl => match us, hl with | [_, _], _ => rfl, fun w base => ok_BadCountI T13 q248⟩, ⟨⟨q249, q250, q239, q251, q252, q44, q45, q253⟩, Hd.kit_own q254 q122 q123 q273, Hd.kitV_ty q242, false, false, false, false, true, false, false, false, false, false, false, false, false, false, false, false, false, false, false, Hd.kit_own q254 q67 q49 q255, Hd.kit_own q254 q68 q69 q256, Hd.kit_own q254 q71 q72 q257, Hd.kit_own q254 q74 q75 q258, Hd.kit_own q254 q77 q78 q254, Hd.kit_own q254 q80 q81 q259, Hd.kit_own q254 q83 q84 q260, Hd.kit_own q254 q86 q87 q261, Hd.kit_own q254 q89 q90 q262, Hd.kit_own q254 q92 q93 q263, Hd.kit_own q254 q95 q96 q264, Hd.kit_own q254 q98 q99 q265, Hd.kit_own q254 q101 q102 q266, Hd.kit_own q254 q104 q105 q267, Hd.kit_own q254 q107 q108 q268, Hd.kit_own q254 q110 q111 q269, Hd.kit_own q254 q113 q114 q270, Hd.kit_own q254 q116 q117 q271, Hd.kit_own q254 q119 q120 q272, by decide⟩, fun n hn => by
      rcases List.mem_cons.mp hn with e | hn
      · rw [e]; exact q248
      cases hn⟩,
    e_BadPerson := ⟨⟨O14, (PySem.W.mg_of X G q28), _, _, q283, q284, .all fun us hl => match us, hl with | [_, _], _ => rfl, fun w base => ok_BadPersonI T14 q285⟩, ⟨⟨q286, q287, q276, q288, q289, q44, q45, q290⟩, Hd.kit_own q291 q122 q123 q310, Hd.kitV_ty q279, false, false, false, false, false, true, false, false, false, false, false, false, false, false, false, false, false, false, false, Hd.kit_own q291 q67 q49 q292, Hd.kit_own q291 q68 q69 q293, Hd.kit_own q291 q71 q72 q294, Hd.kit_own q291 q74 q75 q295, Hd.kit_own q291 q77 q78 q296, Hd.kit_own q291 q80 q81 q291, Hd.kit_own q291 q83 q84 q297, Hd.kit_own q291 q86 q87 q298, Hd.kit_own q291 q89 q90 q299, Hd.kit_own q291 q92 q93 q300, Hd.kit_own q291 q95 q96 q301, Hd.kit_own q291 q98 q99 q302, Hd.kit_own q291 q101 q102 q303, Hd.kit_own q291 q104 q105 q304, Hd.kit_own q291 q107 q108 q305, Hd.kit_own q291 q110 q111 q306, Hd.kit_own q291 q113 q114 q307, Hd.kit_own q291 q116 q117 q308, Hd.kit_own q291 q119 q120 q309, by decide⟩, fun n hn => by
      rcases List.mem_cons.mp hn with e | hn
      · rw [e]; exact q285
      cases hn⟩,
    e_BadLetter := ⟨⟨O15, (PySem.W.mg_of X G q29), _, _, q320, q321, .all fun us hl => match us, hl with | [_, _], _ => rfl, fun w base => ok_BadLetterI T15 q322⟩, ⟨⟨q323, q324, q313, q325, q326, q44, q45, q327⟩, Hd.kit_own q328 q122 q123 q347, Hd.kitV_ty q316, false, false, false, false, false, false, true, false, false, false, false, false, false, false, false, false, false, false, false, Hd.kit_own q328 q67 q49 q329, Hd.kit_own q328 q68 q69 q330, Hd.kit_own q328 q71 q72 q331, Hd.kit_own q328 q74 q75 q332, Hd.kit_own q328 q77 q78 q333, Hd.kit_own q328 q80 q81 q334, Hd.kit_own q328 q83 q84 q328, Hd.kit_own q328 q86 q87 q335, Hd.kit_own q328 q89 q90 q336, Hd.kit_own q328 q92 q93 q337, Hd.kit_own q328 q95 q96 q338, Hd.kit_own q328 q98 q99 q339, Hd.kit_own q328 q101 q102 q340, Hd.kit_own q328 q104 q105 q341, Hd.kit_own q328 q107 q108 q342, Hd.kit_own q328 q110 q111 q343, Hd.kit_own q328 q113 q114 q344, Hd.kit_own q328 q116 q117 q345, Hd.kit_own q328 q119 q120 q346, by decide⟩, fun n hn => by
      rcases List.mem_cons.mp hn with e | hn
      · rw [e]; exact q322
      cases hn⟩,
    e_UnknownPerson := ⟨⟨O16, (PySem.W.mg_of X G q30), _, _, q357, q358, .all fun us hl => match us, hl with | [_, _, _], _ => rfl, fun w base => ok_UnknownPersonI T16 q359 q360⟩, ⟨⟨q361, q362, q350, q363, q364, q44, q45, q365⟩, Hd.kit_own q366 q122 q123 q385, Hd.kitV_ty q353, false, false, false, false, false, false, false, true, false, false, false, false, false, false, false, false, false, false, false, Hd.kit_own q366 q67 q49 q367, Hd.kit_own q366 q68 q69 q368, Hd.kit_own q366 q71 q72 q369, Hd.kit_own q366 q74 q75 q370, Hd.kit_own q366 q77 q78 q371, Hd.kit_own q366 q80 q81 q372, Hd.kit_own q366 q83 q84 q373, Hd.kit_own q366 q86 q87 q366, Hd.kit_own q366 q89 q90 q374, Hd.kit_own q366 q92 q93 q375, Hd.kit_own q366 q95 q96 q376, Hd.kit_own q366 q98 q99 q377, Hd.kit_own q366 q101 q102 q378, Hd.kit_own q366 q104 q105 q379, Hd.kit_own q366 q107 q108 q380, Hd.kit_own q366 q110 q111 q381, Hd.kit_own q366 q113 q114 q382, Hd.kit_own q366 q116 q117 q383, Hd.kit_own q366 q119 q120 q384, by decide⟩, fun n hn => by
      rcases List.mem_cons.mp hn with e | hn
      · rw [e]; exact q359
      rcases List.mem_cons.mp hn with e | hn
      · rw [e]; exact q360
      cases hn⟩,
    e_TooMany := ⟨⟨O17, (PySem.W.mg_of X G q31), _, _, q395, q396, .all fun us hl => match us, hl with | [_, _], _ => rfl, fun w base => ok_TooManyI T17 q397⟩, ⟨⟨q398, q399, q388, q400, q401, q44, q45, q402⟩, Hd.kit_own q403 q122 q123 q422, Hd.kitV_ty q391, false, false, false, false, false, false, false, false, true, false, false, false, false, false, false, false, false, false, false, Hd.kit_own q403 q67 q49 q404, Hd.kit_own q403 q68 q69 q405, Hd.kit_own q403 q71 q72 q406, Hd.kit_own q403 q74 q75 q407, Hd.kit_own q403 q77 q78 q408, Hd.kit_own q403 q80 q81 q409, Hd.kit_own q403 q83 q84 q410, Hd.kit_own q403 q86 q87 q411, Hd.kit_own q403 q89 q90 q403, Hd.kit_own q403 q92 q93 q412, Hd.kit_own q403 q95 q96 q413, Hd.kit_own q403 q98 q99 q414, Hd.kit_own q403 q101 q102 q415, Hd.kit_own q403 q104 q105 q416, Hd.kit_own q403 q107 q108 q417, Hd.kit_own q403 q110 q111 q418, Hd.kit_own q403 q113 q114 q419, Hd.kit_own q403 q116 q117 q420, Hd.kit_own q403 q119 q120 q421, by decide⟩, fun n hn => by
      rcases List.mem_cons.mp hn with e | hn
      · rw [e]; exact q397
      cases hn⟩,
    e_BadPattern := ⟨⟨O18, (PySem.W.mg_of X G q32), _, _, q432, q433, .all fun us hl => match us, hl with | [_, _], _ => rfl, fun w base => ok_BadPatternI T18 q434⟩, ⟨⟨q435, q436, q425, q437, q438, q44, q45, q439⟩, Hd.kit_own q440 q122 q123 q459, Hd.kitV_ty q428, false, false, false, false, false, false, false, false, false, true, false, false, false, false, false, false, false, false, false, Hd.kit_own q440 q67 q49 q441, Hd.kit_own q440 q68 q69 q442, Hd.kit_own q440 q71 q72 q443, Hd.kit_own q440 q74 q75 q444, Hd.kit_own q440 q77 q78 q445, Hd.kit_own q440 q80 q81 q446, Hd.kit_own q440 q83 q84 q447, Hd.kit_own q440 q86 q87 q448, Hd.kit_own q440 q89 q90 q449, Hd.kit_own q440 q92 q93 q440, Hd.kit_own q440 q95 q96 q450, Hd.kit_own q440 q98 q99 q451, Hd.kit_own q440 q101 q102 q452, Hd.kit_own q440 q104 q105 q453, Hd.kit_own q440 q107 q108 q454, Hd.kit_own q440 q110 q111 q455, Hd.kit_own q440 q113 q114 q456, Hd.kit_own q440 q116 q117 q457, Hd.kit_own q440 q119 q120 q458, by decide⟩, fun n hn => by
      rcases List.mem_cons.mp hn with e | hn
      · rw [e]; exact q434
      cases hn⟩,
    e_SameWord := ⟨⟨O19, (PySem.W.mg_of X G q33), _, _, q469, q470, .all fun us hl => match us, hl with | [_, _], _ => rfl, fun w base => ok_SameWordI T19 q471⟩, ⟨⟨q472, q473, q462, q474, q475, q44, q45, q476⟩, Hd.kit_own q477 q122 q123 q496, Hd.kitV_ty q465, false, false, false, false, false, false, false, false, false, false, true, false, false, false, false, false, false, false, false, Hd.kit_own q477 q67 q49 q478, Hd.kit_own q477 q68 q69 q479, Hd.kit_own q477 q71 q72 q480, Hd.kit_own q477 q74 q75 q481, Hd.kit_own q477 q77 q78 q482, Hd.kit_own q477 q80 q81 q483, Hd.kit_own q477 q83 q84 q484, Hd.kit_own q477 q86 q87 q485, Hd.kit_own q477 q89 q90 q486, Hd.kit_own q477 q92 q93 q487, Hd.kit_own q477 q95 q96 q477, Hd.kit_own q477 q98 q99 q488, Hd.kit_own q477 q101 q102 q489, Hd.kit_own q477 q104 q105 q490, Hd.kit_own q477 q107 q108 q491, Hd.kit_own q477 q110 q111 q492, Hd.kit_own q477 q113 q114 q493, Hd.kit_own q477 q116 q117 q494, Hd.kit_own q477 q119 q120 q495, by decide⟩, fun n hn => by
      rcases List.mem_cons.mp hn with e | hn
      · rw [e]; exact q471
      cases hn⟩,
    e_UnknownClue := ⟨⟨O20, (PySem.W.mg_of X G q34), _, _, q506, q507, .all fun us hl => match us, hl with | [_, _], _ => rfl, fun w base => ok_UnknownClueI T20 q508⟩, ⟨⟨q509, q510, q499, q511, q512, q44, q45, q513⟩, Hd.kit_own q514 q122 q123 q533, Hd.kitV_ty q502, false, false, false, false, false, false, false, false, false, false, false, true, false, false, false, false, false, false, false, Hd.kit_own q514 q67 q49 q515, Hd.kit_own q514 q68 q69 q516, Hd.kit_own q514 q71 q72 q517, Hd.kit_own q514 q74 q75 q518, Hd.kit_own q514 q77 q78 q519, Hd.kit_own q514 q80 q81 q520, Hd.kit_own q514 q83 q84 q521, Hd.kit_own q514 q86 q87 q522, Hd.kit_own q514 q89 q90 q523, Hd.kit_own q514 q92 q93 q524, Hd.kit_own q514 q95 q96 q525, Hd.kit_own q514 q98 q99 q514, Hd.kit_own q514 q101 q102 q526, Hd.kit_own q514 q104 q105 q527, Hd.kit_own q514 q107 q108 q528, Hd.kit_own q514 q110 q111 q529, Hd.kit_own q514 q113 q114 q530, Hd.kit_own q514 q116 q117 q531, Hd.kit_own q514 q119 q120 q532, by decide⟩, fun n hn => by
      rcases List.mem_cons.mp hn with e | hn
      · rw [e]; exact q508
      cases hn⟩,
    e_BadPlace := ⟨⟨O21, (PySem.W.mg_of X G q35), _, _, q543, q544, .all fun us hl => match us, hl with | [_, _], _ => rfl, fun w base => ok_BadPlaceI T21 q545⟩, ⟨⟨q546, q547, q536, q548, q549, q44, q45, q550⟩, Hd.kit_own q551 q122 q123 q570, Hd.kitV_ty q539, false, false, false, false, false, false, false, false, false, false, false, false, true, false, false, false, false, false, false, Hd.kit_own q551 q67 q49 q552, Hd.kit_own q551 q68 q69 q553, Hd.kit_own q551 q71 q72 q554, Hd.kit_own q551 q74 q75 q555, Hd.kit_own q551 q77 q78 q556, Hd.kit_own q551 q80 q81 q557, Hd.kit_own q551 q83 q84 q558, Hd.kit_own q551 q86 q87 q559, Hd.kit_own q551 q89 q90 q560, Hd.kit_own q551 q92 q93 q561, Hd.kit_own q551 q95 q96 q562, Hd.kit_own q551 q98 q99 q563, Hd.kit_own q551 q101 q102 q551, Hd.kit_own q551 q104 q105 q564, Hd.kit_own q551 q107 q108 q565, Hd.kit_own q551 q110 q111 q566, Hd.kit_own q551 q113 q114 q567, Hd.kit_own q551 q116 q117 q568, Hd.kit_own q551 q119 q120 q569, by decide⟩, fun n hn => by
      rcases List.mem_cons.mp hn with e | hn
      · rw [e]; exact q545
      cases hn⟩,
    e_TooLong := ⟨⟨O22, (PySem.W.mg_of X G q36), _, _, q580, q581, .all fun us hl => match us, hl with | [_, _], _ => rfl, fun w base => ok_TooLongI T22 q582⟩, ⟨⟨q583, q584, q573, q585, q586, q44, q45, q587⟩, Hd.kit_own q588 q122 q123 q607, Hd.kitV_ty q576, false, false, false, false, false, false, false, false, false, false, false, false, false, true, false, false, false, false, false, Hd.kit_own q588 q67 q49 q589, Hd.kit_own q588 q68 q69 q590, Hd.kit_own q588 q71 q72 q591, Hd.kit_own q588 q74 q75 q592, Hd.kit_own q588 q77 q78 q593, Hd.kit_own q588 q80 q81 q594, Hd.kit_own q588 q83 q84 q595, Hd.kit_own q588 q86 q87 q596, Hd.kit_own q588 q89 q90 q597, Hd.kit_own q588 q92 q93 q598, Hd.kit_own q588 q95 q96 q599, Hd.kit_own q588 q98 q99 q600, Hd.kit_own q588 q101 q102 q601, Hd.kit_own q588 q104 q105 q588, Hd.kit_own q588 q107 q108 q602, Hd.kit_own q588 q110 q111 q603, Hd.kit_own q588 q113 q114 q604, Hd.kit_own q588 q116 q117 q605, Hd.kit_own q588 q119 q120 q606, by decide⟩, fun n hn => by
      rcases List.mem_cons.mp hn with e | hn
      · rw [e]; exact q582
      cases hn⟩,
    e_Melted := ⟨⟨O23, (PySem.W.mg_of X G q37), _, _, q617, q618, .all fun us hl => match us, hl with | [_, _, _], _ => rfl, fun w base => ok_MeltedI T23 q619 q620⟩, ⟨⟨q621, q622, q610, q623, q624, q44, q45, q625⟩, Hd.kit_own q626 q122 q123 q645, Hd.kitV_ty q613, false, false, false, false, false, false, false, false, false, false, false, false, false, false, true, false, false, false, false, Hd.kit_own q626 q67 q49 q627, Hd.kit_own q626 q68 q69 q628, Hd.kit_own q626 q71 q72 q629, Hd.kit_own q626 q74 q75 q630, Hd.kit_own q626 q77 q78 q631, Hd.kit_own q626 q80 q81 q632, Hd.kit_own q626 q83 q84 q633, Hd.kit_own q626 q86 q87 q634, Hd.kit_own q626 q89 q90 q635, Hd.kit_own q626 q92 q93 q636, Hd.kit_own q626 q95 q96 q637, Hd.kit_own q626 q98 q99 q638, Hd.kit_own q626 q101 q102 q639, Hd.kit_own q626 q104 q105 q640, Hd.kit_own q626 q107 q108 q626, Hd.kit_own q626 q110 q111 q641, Hd.kit_own q626 q113 q114 q642, Hd.kit_own q626 q116 q117 q643, Hd.kit_own q626 q119 q120 q644, by decide⟩, fun n hn => by
      rcases List.mem_cons.mp hn with e | hn
      · rw [e]; exact q619
      rcases List.mem_cons.mp hn with e | hn
      · rw [e]; exact q620
      cases hn⟩,
    e_NothingToUndo := ⟨⟨O24, (PySem.W.mg_of X G q38), _, _, q655, q656, .all fun us hl => match us, hl with | [_], _ => rfl, fun w base => ok_NothingToUndoI T24 ⟩, ⟨⟨q657, q658, q648, q659, q660, q44, q45, q661⟩, Hd.kit_own q662 q122 q123 q681, Hd.kitV_ty q651, false, false, false, false, false, false, false, false, false, false, false, false, false, false, false, true, false, false, false, Hd.kit_own q662 q67 q49 q663, Hd.kit_own q662 q68 q69 q664, Hd.kit_own q662 q71 q72 q665, Hd.kit_own q662 q74 q75 q666, Hd.kit_own q662 q77 q78 q667, Hd.kit_own q662 q80 q81 q668, Hd.kit_own q662 q83 q84 q669, Hd.kit_own q662 q86 q87 q670, Hd.kit_own q662 q89 q90 q671, Hd.kit_own q662 q92 q93 q672, Hd.kit_own q662 q95 q96 q673, Hd.kit_own q662 q98 q99 q674, Hd.kit_own q662 q101 q102 q675, Hd.kit_own q662 q104 q105 q676, Hd.kit_own q662 q107 q108 q677, Hd.kit_own q662 q110 q111 q662, Hd.kit_own q662 q113 q114 q678, Hd.kit_own q662 q116 q117 q679, Hd.kit_own q662 q119 q120 q680, by decide⟩⟩,
    e_NothingToRedo := ⟨⟨O25, (PySem.W.mg_of X G q39), _, _, q691, q692, .all fun us hl => match us, hl with | [_], _ => rfl, fun w base => ok_NothingToRedoI T25 ⟩, ⟨⟨q693, q694, q684, q695, q696, q44, q45, q697⟩, Hd.kit_own q698 q122 q123 q717, Hd.kitV_ty q687, false, false, false, false, false, false, false, false, false, false, false, false, false, false, false, false, true, false, false, Hd.kit_own q698 q67 q49 q699, Hd.kit_own q698 q68 q69 q700, Hd.kit_own q698 q71 q72 q701, Hd.kit_own q698 q74 q75 q702, Hd.kit_own q698 q77 q78 q703, Hd.kit_own q698 q80 q81 q704, Hd.kit_own q698 q83 q84 q705, Hd.kit_own q698 q86 q87 q706, Hd.kit_own q698 q89 q90 q707, Hd.kit_own q698 q92 q93 q708, Hd.kit_own q698 q95 q96 q709, Hd.kit_own q698 q98 q99 q710, Hd.kit_own q698 q101 q102 q711, Hd.kit_own q698 q104 q105 q712, Hd.kit_own q698 q107 q108 q713, Hd.kit_own q698 q110 q111 q714, Hd.kit_own q698 q113 q114 q698, Hd.kit_own q698 q116 q117 q715, Hd.kit_own q698 q119 q120 q716, by decide⟩⟩,
    e_Refused := ⟨⟨O26, (PySem.W.mg_of X G q40), _, _, q727, q728, .all fun us hl => match us, hl with | [_, _], _ => rfl, fun w base => ok_RefusedI T26 q729⟩, ⟨⟨q730, q731, q720, q732, q733, q44, q45, q734⟩, Hd.kit_own q735 q122 q123 q754, Hd.kitV_ty q723, false, false, false, false, false, false, false, false, false, false, false, false, false, false, false, false, false, true, false, Hd.kit_own q735 q67 q49 q736, Hd.kit_own q735 q68 q69 q737, Hd.kit_own q735 q71 q72 q738, Hd.kit_own q735 q74 q75 q739, Hd.kit_own q735 q77 q78 q740, Hd.kit_own q735 q80 q81 q741, Hd.kit_own q735 q83 q84 q742, Hd.kit_own q735 q86 q87 q743, Hd.kit_own q735 q89 q90 q744, Hd.kit_own q735 q92 q93 q745, Hd.kit_own q735 q95 q96 q746, Hd.kit_own q735 q98 q99 q747, Hd.kit_own q735 q101 q102 q748, Hd.kit_own q735 q104 q105 q749, Hd.kit_own q735 q107 q108 q750, Hd.kit_own q735 q110 q111 q751, Hd.kit_own q735 q113 q114 q752, Hd.kit_own q735 q116 q117 q735, Hd.kit_own q735 q119 q120 q753, by decide⟩, fun n hn => by
      rcases List.mem_cons.mp hn with e | hn
      · rw [e]; exact q729
      cases hn⟩,
    e_BadLine := ⟨⟨O27, (PySem.W.mg_of X G q41), _, _, q764, q765, .all fun us hl => match us, hl with | [_, _], _ => rfl, fun w base => ok_BadLineI T27 q766⟩, ⟨⟨q767, q768, q757, q769, q770, q44, q45, q771⟩, Hd.kit_own q772 q122 q123 q791, Hd.kitV_ty q760, false, false, false, false, false, false, false, false, false, false, false, false, false, false, false, false, false, false, true, Hd.kit_own q772 q67 q49 q773, Hd.kit_own q772 q68 q69 q774, Hd.kit_own q772 q71 q72 q775, Hd.kit_own q772 q74 q75 q776, Hd.kit_own q772 q77 q78 q777, Hd.kit_own q772 q80 q81 q778, Hd.kit_own q772 q83 q84 q779, Hd.kit_own q772 q86 q87 q780, Hd.kit_own q772 q89 q90 q781, Hd.kit_own q772 q92 q93 q782, Hd.kit_own q772 q95 q96 q783, Hd.kit_own q772 q98 q99 q784, Hd.kit_own q772 q101 q102 q785, Hd.kit_own q772 q104 q105 q786, Hd.kit_own q772 q107 q108 q787, Hd.kit_own q772 q110 q111 q788, Hd.kit_own q772 q113 q114 q789, Hd.kit_own q772 q116 q117 q790, Hd.kit_own q772 q119 q120 q772, by decide⟩, fun n hn => by
      rcases List.mem_cons.mp hn with e | hn
      · rw [e]; exact q766
      cases hn⟩,
    x_0_M := PySem.W.exm_ref q792 q793 q123 q124,
    x_0_0 := PySem.W.exm_ref q48 q63 q49 q66,
    x_1_M := PySem.W.exm_ref q792 q793 q123 q161,
    x_1_0 := PySem.W.exm_ref q48 q63 q49 q143,
    x_1_1 := PySem.W.exm_ref q127 q139 q69 q142,
    x_2_M := PySem.W.exm_ref q792 q793 q123 q198,
    x_2_0 := PySem.W.exm_ref q48 q63 q49 q180,
    x_2_1 := PySem.W.exm_ref q127 q139 q69 q181,
    x_2_2 := PySem.W.exm_ref q164 q176 q72 q179,
    x_3_M := PySem.W.exm_ref q792 q793 q123 q236,
    x_3_0 := PySem.W.exm_ref q48 q63 q49 q218,
    x_3_1 := PySem.W.exm_ref q127 q139 q69 q219,
    x_3_2 := PySem.W.exm_ref q164 q176 q72 q220,
    x_3_3 := PySem.W.exm_ref q201 q214 q75 q217,
    x_4_M := PySem.W.exm_ref q792 q793 q123 q273,
    x_4_0 := PySem.W.exm_ref q48 q63 q49 q255,
    x_4_1 := PySem.W.exm_ref q127 q139 q69 q256,
    x_4_2 := PySem.W.exm_ref q164 q176 q72 q257,
    x_4_3 := PySem.W.exm_ref q201 q214 q75 q258,
    x_4_4 := PySem.W.exm_ref q239 q251 q78 q254,
    x_5_M := PySem.W.exm_ref q792 q793 q123 q310,
    x_5_0 := PySem.W.exm_ref q48 q63 q49 q292,
    x_5_1 := PySem.W.exm_ref q127 q139 q69 q293,
    x_5_2 := PySem.W.exm_ref q164 q176 q72 q294,
    x_5_3 := PySem.W.exm_ref q201 q214 q75 q295,
    x_5_4 := PySem.W.exm_ref q239 q251 q78 q296,
    x_5_5 := PySem.W.exm_ref q276 q288 q81 q291,
    x_6_M := PySem.W.exm_ref q792 q793 q123 q347,
    x_6_0 := PySem.W.exm_ref q48 q63 q49 q329,
    x_6_1 := PySem.W.exm_ref q127 q139 q69 q330,
    x_6_2 := PySem.W.exm_ref q164 q176 q72 q331,
    x_6_3 := PySem.W.exm_ref q201 q214 q75 q332,
    x_6_4 := PySem.W.exm_ref q239 q251 q78 q333,
    x_6_5 := PySem.W.exm_ref q276 q288 q81 q334,
    x_6_6 := PySem.W.exm_ref q313 q325 q84 q328,
    x_7_M := PySem.W.exm_ref q792 q793 q123 q385,
    x_7_0 := PySem.W.exm_ref q48 q63 q49 q367,
    x_7_1 := PySem.W.exm_ref q127 q139 q69 q368,
    x_7_2 := PySem.W.exm_ref q164 q176 q72 q369,
    x_7_3 := PySem.W.exm_ref q201 q214 q75 q370,
    x_7_4 := PySem.W.exm_ref q239 q251 q78 q371,
    x_7_5 := PySem.W.exm_ref q276 q288 q81 q372,
    x_7_6 := PySem.W.exm_ref q313 q325 q84 q373,
    x_7_7 := PySem.W.exm_ref q350 q363 q87 q366,
    x_8_M := PySem.W.exm_ref q792 q793 q123 q422,
    x_8_0 := PySem.W.exm_ref q48 q63 q49 q404,
    x_8_1 := PySem.W.exm_ref q127 q139 q69 q405,
    x_8_2 := PySem.W.exm_ref q164 q176 q72 q406,
    x_8_3 := PySem.W.exm_ref q201 q214 q75 q407,
    x_8_4 := PySem.W.exm_ref q239 q251 q78 q408,
    x_8_5 := PySem.W.exm_ref q276 q288 q81 q409,
    x_8_6 := PySem.W.exm_ref q313 q325 q84 q410,
    x_8_7 := PySem.W.exm_ref q350 q363 q87 q411,
    x_8_8 := PySem.W.exm_ref q388 q400 q90 q403,
    x_9_M := PySem.W.exm_ref q792 q793 q123 q459,
    x_9_0 := PySem.W.exm_ref q48 q63 q49 q441,
    x_9_1 := PySem.W.exm_ref q127 q139 q69 q442,
    x_9_2 := PySem.W.exm_ref q164 q176 q72 q443,
    x_9_3 := PySem.W.exm_ref q201 q214 q75 q444,
    x_9_4 := PySem.W.exm_ref q239 q251 q78 q445,
    x_9_5 := PySem.W.exm_ref q276 q288 q81 q446,
    x_9_6 := PySem.W.exm_ref q313 q325 q84 q447,
    x_9_7 := PySem.W.exm_ref q350 q363 q87 q448,
    x_9_8 := PySem.W.exm_ref q388 q400 q90 q449,
    x_9_9 := PySem.W.exm_ref q425 q437 q93 q440,
    x_10_M := PySem.W.exm_ref q792 q793 q123 q496,
    x_10_10 := PySem.W.exm_ref q462 q474 q96 q477,
    x_11_M := PySem.W.exm_ref q792 q793 q123 q533,
    x_11_10 := PySem.W.exm_ref q462 q474 q96 q525,
    x_11_11 := PySem.W.exm_ref q499 q511 q99 q514,
    x_12_M := PySem.W.exm_ref q792 q793 q123 q570,
    x_12_10 := PySem.W.exm_ref q462 q474 q96 q562,
    x_12_11 := PySem.W.exm_ref q499 q511 q99 q563,
    x_12_12 := PySem.W.exm_ref q536 q548 q102 q551,
    x_13_M := PySem.W.exm_ref q792 q793 q123 q607,
    x_13_10 := PySem.W.exm_ref q462 q474 q96 q599,
    x_13_11 := PySem.W.exm_ref q499 q511 q99 q600,
    x_13_12 := PySem.W.exm_ref q536 q548 q102 q601,
    x_13_13 := PySem.W.exm_ref q573 q585 q105 q588,
    x_14_M := PySem.W.exm_ref q792 q793 q123 q645,
    x_14_10 := PySem.W.exm_ref q462 q474 q96 q637,
    x_14_11 := PySem.W.exm_ref q499 q511 q99 q638,
    x_14_12 := PySem.W.exm_ref q536 q548 q102 q639,
    x_14_13 := PySem.W.exm_ref q573 q585 q105 q640,
    x_14_14 := PySem.W.exm_ref q610 q623 q108 q626,
    x_15_M := PySem.W.exm_ref q792 q793 q123 q681,
    x_15_10 := PySem.W.exm_ref q462 q474 q96 q673,
    x_15_11 := PySem.W.exm_ref q499 q511 q99 q674,
    x_15_12 := PySem.W.exm_ref q536 q548 q102 q675,
    x_15_13 := PySem.W.exm_ref q573 q585 q105 q676,
    x_15_14 := PySem.W.exm_ref q610 q623 q108 q677,
    x_15_15 := PySem.W.exm_ref q648 q659 q111 q662,
    x_16_M := PySem.W.exm_ref q792 q793 q123 q717,
    x_16_10 := PySem.W.exm_ref q462 q474 q96 q709,
    x_16_11 := PySem.W.exm_ref q499 q511 q99 q710,
    x_16_12 := PySem.W.exm_ref q536 q548 q102 q711,
    x_16_13 := PySem.W.exm_ref q573 q585 q105 q712,
    x_16_14 := PySem.W.exm_ref q610 q623 q108 q713,
    x_16_15 := PySem.W.exm_ref q648 q659 q111 q714,
    x_16_16 := PySem.W.exm_ref q684 q695 q114 q698,
    x_17_M := PySem.W.exm_ref q792 q793 q123 q754,
    x_17_10 := PySem.W.exm_ref q462 q474 q96 q746,
    x_17_11 := PySem.W.exm_ref q499 q511 q99 q747,
    x_17_12 := PySem.W.exm_ref q536 q548 q102 q748,
    x_17_13 := PySem.W.exm_ref q573 q585 q105 q749,
    x_17_14 := PySem.W.exm_ref q610 q623 q108 q750,
    x_17_15 := PySem.W.exm_ref q648 q659 q111 q751,
    x_17_16 := PySem.W.exm_ref q684 q695 q114 q752,
    x_17_17 := PySem.W.exm_ref q720 q732 q117 q735,
    x_18_M := PySem.W.exm_ref q792 q793 q123 q791,
    x_18_10 := PySem.W.exm_ref q462 q474 q96 q783,
    x_18_11 := PySem.W.exm_ref q499 q511 q99 q784,
    x_18_12 := PySem.W.exm_ref q536 q548 q102 q785,
    x_18_13 := PySem.W.exm_ref q573 q585 q105 q786,
    x_18_14 := PySem.W.exm_ref q610 q623 q108 q787,
    x_18_15 := PySem.W.exm_ref q648 q659 q111 q788,
    x_18_16 := PySem.W.exm_ref q684 q695 q114 q789,
    x_18_17 := PySem.W.exm_ref q720 q732 q117 q790,
    x_18_18 := PySem.W.exm_ref q757 q769 q120 q772,
    f__law_single := ⟨(He.ga K "_law_single"), fd28, F28, (PySem.W.mg_of X G q795), F28.binds (ps := ["_law_e"]) fun _ _ _ _ _ _ us hl => match us, hl with | [_], _ => rfl⟩
  }
theorem hd_facts {w : World} {K : PySem.W.Frag} {h : Heap} {mg : Str → Option Value} {fa : Addr} (X : K.In h) (G : h.Ns mainGlobals mg) (hfa : mg "law" = some (.ref fa)) (c : Hd.SaysB hdB hdF K) :
    ∃ fd : FuncData, (∀ (s : Shared) (v : Value), BindsTo s fd ⟨[v], []⟩ [("_law_script", v)]) ∧ ∀ base : Heap, K.In base → base.Ns mainGlobals mg → FnOk (PySem.Challenge.rw_murmurline_k77_whole_family_of_errors).prog w K mg base CX0 5 fa fd ["_law_script"] (Dl.spLaw K) := by
  have A := hd_al X G c
  obtain ⟨f, fd, i, b, o⟩ := ok_law_k77 (w := w) A Fn.law_k77
  have e : f = fa := by rw [hfa] at i; cases i; rfl
  subst e
  exact ⟨fd, b, fun base _ _ => o base⟩
end Dg
open PySem PySem.W PyProof.Rows in
set_option maxRecDepth 100000 in
set_option maxHeartbeats 0 in
theorem PySem.Challenge.cw_murmurline_k77_whole_family_of_errors_holds : PySem.Challenge.rw_murmurline_k77_whole_family_of_errors.Holds := by
  w_on; o_law
  refine HandSHeadRun.head_any (r := OpenLaw.row PySem.Challenge.rw_murmurline_k77_whole_family_of_errors) (q := view (OpenLaw.row PySem.Challenge.rw_murmurline_k77_whole_family_of_errors).prog [31]) (H := Dg.hdH) (ob := Dg.hdO) (M := 12000) (loose := Dg.hdN) (d := HandSHeadRun.topDef (OpenLaw.row PySem.Challenge.rw_murmurline_k77_whole_family_of_errors).prog 31) (kwd := []) Dg.hdO_eq
    (by kernel_rfl) (fun s => by kernel_rfl) Dg.hd_run (by kernel_rfl) (by kernel_rfl) (by kernel_rfl) (by rfl) (by first | assumption | decide +kernel) (by decide +kernel) ⟨rfl, rfl, rfl, rfl, rfl, by decide +kernel⟩ ?hw ?hc
  case hw => w_witness2
  case hc =>
    refine L2.walk_ofE (l := PySem.Challenge.rw_murmurline_k77_whole_family_of_errors) (n := 63) (k := 5) (x := "_law_script") (CX := L2.CX0) rfl (by decide) (by kernel_rfl) ⟨rfl, by decide, by decide⟩ ?F (fun _ _ _ _ z => z)
    intro w mg fa h Y G hmg0
    obtain ⟨K, KX, c⟩ := Y
    have hmg : mg ("law" : PySem.Str) = some (.ref fa) := by
      have e : (HandSHeadRun.topDef (OpenLaw.row PySem.Challenge.rw_murmurline_k77_whole_family_of_errors).prog 31).name = ("law" : PySem.Str) := by kernel_rfl
      rw [← e]
      exact hmg0
    obtain ⟨fd, hb, hF⟩ := Dg.hd_facts (w := w) KX G hmg c
    exact ⟨K, fd, Dl.spLaw K, KX, hb, fun H a ns hl _ hS => ⟨a, ns, rfl, hS, hl, fun _ => rfl⟩, hF⟩
