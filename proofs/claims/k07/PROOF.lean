import PyProof.Rows.All
import Wide.All
import OpenK.AllK
import Wide.FinOn
import KE.KStateDown
import KE.KExcIs
import KE.KIsAll
import HandS.ForMost
import HandS.ForExc
import HandS.Head0
import HandS.Head1
import HandS.Head2
import HandS.HeadEnd
import HandS.HeadHook1
import HandS.HeadHook2
import HandS.Defaults
import HandS.Nested
import HandS.Words
import HandS.Walk
import HandS.IsInst
import HandS.Conv
import HandS.Style
import HandS.Deep
import KE.KSortKey
import PyProof.CallStr
import PyProof.Rows.SortShellAny
import HandS.SortKw
import HandS.More
import HandS.ClsMeth
import HandS.SlotsOwn
import HandS.Property
import HandS.FStr
import HandS.Text
import HandS.TupAny
import HandS.Flow
import HandS.WordsDict
import HandS.TupLen
import HandS.Zip
import HandS.RaiseMore
import HandS.DictComp
import HandS.Iter
import HandS.Codes
import HandS.OwnIter
import KE.KCallOwn
import KE.KFmtOwn
import OpenK.KOps
import HandS.Star
import KE.GoesEnum
import KE.GoesMore
import KE.KExcSuper
import HandS.ExcInit
import HandS.ExcSuper
import KE.KSuper
import KE.RegKSuper
import HandS.MakeKw
import HandS.ExcCtx
import KE.KStar
import OpenK.KMore
import KE.KOwnIter
import HandS.IterNext
import HandS.IterVal
import HandS.MakeKwOnly
import PyProof.InstNe
import PyProof.FactsAll.object_2
import HandS.ExcField
import HandS.Comp
import HandS.Hot
import HandS.HotCalls
import HandS.ExcIs
import KE.KOpsOwn
import KE.LtSeq
import PyProof.StrOps2
import HandS.DictEq
import PyProof.ReprRoads
import HandS.Ends
import PyProof.Rows.StrRev
import PySem.Challenge.RW_murmurline_k07_whole_repeated
set_option Elab.async false
set_option linter.all false
set_option maxRecDepth 100000
set_option maxHeartbeats 4000000
set_option exponentiation.threshold 2000
/-! the head's facts by one Bool over the objects that the top has made; defs may have defaults -/
namespace Hd
open PySem PySem.Spec PyProof.Rows L2
def frNat {α : Type} (n : Nat) (k : Nat → α) : α := match n with
  | 0 => k 0
  | m + 1 => k (m + 1)
def forceL {α : Type} : List Addr → (List Addr → α) → α
  | [], k => k []
  | a :: r, k => frNat a fun a => forceL r fun r => k (a :: r)
def forceK {α : Type} (g : Addr → Option Obj) : List Addr → (PySem.W.Frag → α) → α
  | [], k => k []
  | a :: r, k => match g a with
    | some ⟨c, d, dt, sl⟩ => forceK g r fun r => k ((a, ⟨c, d, dt, sl⟩) :: r)
    | none => forceK g r k
theorem forceK_eq {α : Type} {g : Addr → Option Obj} : ∀ (l : List Addr) (k : PySem.W.Frag → α), forceK g l k = k (He.frG g l)
  | [], k => rfl
  | a :: r, k => by
    unfold forceK He.frG
    rw [List.filterMap_cons]
    cases h : g a with
    | none => exact forceK_eq r k
    | some o => exact forceK_eq r _
def nsOf (g : Addr → Option Obj) (c : Addr) : Addr := match g c with
  | some ⟨_, _, .cls cd, _⟩ => cd.ns
  | _ => 0
def gaG (g : Addr → Option Obj) (x : Str) : Addr := He.ga (He.frG g [mainGlobals]) x
def inNs (g : Addr → Option Obj) (ns : Addr) (m : Str) : Addr := match PySem.W.nsIn (He.frG g [ns]) ns m with
  | some (some (.ref a)) => a
  | _ => 0
def refs1 (g : Addr → Option Obj) (a : Addr) : List Addr := match g a with
  | some o => He.refsD o
  | none => []
def refs2 (g : Addr → Option Obj) (a : Addr) : List Addr := match g a with
  | some ⟨c, d, .func fd, sl⟩ => He.refsD ⟨c, d, .func fd, sl⟩
  | _ => []
def reach (g : Addr → Option Obj) (cls globs : List Str) (ms : List (Str × List Str)) : List Addr :=
  forceL (cls.map (gaG g)) fun cs => forceL (cs.map (nsOf g)) fun ns => forceL (globs.map (gaG g)) fun gs =>
  forceL (ms.flatMap fun p => p.2.map (inNs g (nsOf g (gaG g p.1)))) fun fs => forceL ((gs ++ fs).flatMap (refs1 g)) fun f1 => forceL (f1.flatMap (refs2 g)) fun f2 =>
  [mainGlobals, cStatics] ++ cs ++ ns ++ gs ++ fs ++ f1 ++ f2
/-- a def: where it stands; sup: it has the cell of its class; dvs: its defaults -/
structure FnX where
  adr : PySem.W.Frag → Addr
  name : Str
  qual : Str
  params : Arguments
  body : List Stmt
  scope : Scope
  sup : Bool
  dvs : List V
abbrev FnO : Type := Option (Str × Str × Arguments × FuncBody × Scope × Addr × Addr)
def obsAt (K : PySem.W.Frag) (a : Addr) : FnO := match K.lookup a with
  | some ⟨_, _, .func fd, _⟩ => some (fd.name, fd.qualname, fd.params, fd.body, fd.scope, fd.globals, fd.builtins)
  | _ => none
def FnX.val (d : FnX) : FnO := some (d.name, d.qual, d.params, .stmts d.body, d.scope, mainGlobals, builtinsNs)
def cellOf (K : PySem.W.Frag) (a : Addr) : Addr := match K.lookup a with
  | some ⟨_, _, .func fd, _⟩ => (match fd.closure with
    | [(_, c)] => c
    | _ => 0)
  | _ => 0
def codeOf (K : PySem.W.Frag) (a : Addr) : Addr := match K.lookup a with
  | some ⟨_, _, .func fd, _⟩ => (match fd.code with
    | .ref c => c
    | _ => 0)
  | _ => 0
def dflB (K : PySem.W.Frag) (dV : Value) (dvs : List V) : Bool := match dV, dvs with
  | .none, [] => true
  | .ref T, v :: vs => (match K.lookup T with
    | some ⟨_, _, .seq its _, _⟩ => He.relAll (v :: vs) its.toList
    | _ => false)
  | _, _ => false
theorem dflB_ok {K : PySem.W.Frag} {dV : Value} {dvs : List V} (h : dflB K dV dvs = true) : DflV K dV dvs := by
  unfold dflB at h
  split at h
  · exact .inl ⟨rfl, rfl⟩
  · rename_i T v vs
    split at h
    · rename_i oc od its n osl e
      exact .inr ⟨(fun z => nomatch z), T, _, its.toList, n, rfl, e, (show Data.seq its n = Data.seq its.toList.toArray n by rw [Array.toArray_toList]), He.relAll_ok h⟩
    · cases h
  · cases h
def okAt (K : PySem.W.Frag) (a : Addr) (q : Str) (sup : Bool) (dvs : List V) : Bool := match K.lookup a with
  | some ⟨_, _, .func fd, _⟩ => PySem.W.codeIn K fd.code q && ((match sup, fd.closure with
    | false, [] => true
    | true, [(x, _)] => decide (x = "__class__")
    | _, _ => false) && dflB K fd.defaults dvs)
  | _ => false
theorem fnx_dflt {K : PySem.W.Frag} {a : Addr} {n q : Str} {ps : Arguments} {b : List Stmt} {sc : Scope} {dvs : List V} (e : obsAt K a = some (n, q, ps, .stmts b, sc, mainGlobals, builtinsNs)) (c : okAt K a q false dvs = true) :
    ∃ oc od osl dV kV doc pm an cdv ct, K.lookup a = some ⟨oc, od, .func (PySem.W.fnOf n q ps b sc dV kV doc pm an cdv ct), osl⟩ ∧ PySem.W.codeIn K cdv q = true ∧ DflV K dV dvs := by
  unfold obsAt at e
  unfold okAt at c
  cases lk : K.lookup a with
  | none =>
    rw [lk] at e
    cases e
  | some o =>
    obtain ⟨oc, od, dt, osl⟩ := o
    rw [lk] at c e
    cases dt with
    | func fd =>
      obtain ⟨n1, n2, n3, n4, n5, n6, n7, n8, n9, n10, n11, n12, n13, n14, n15⟩ := fd
      have e2 : (some (n1, n2, n3, n4, n5, n6, n15) : FnO) = some (n, q, ps, .stmts b, sc, mainGlobals, builtinsNs) := e
      simp only [Option.some.injEq, Prod.mk.injEq] at e2
      obtain ⟨h1, h2, h3, h4, h5, h6, h7⟩ := e2
      subst h1 h2 h3 h4 h5 h6 h7
      obtain ⟨c1, c2⟩ := He.ba c
      obtain ⟨c2, c3⟩ := He.ba c2
      cases n7 with
      | nil => exact ⟨oc, od, osl, n8, n9, n10, n11, n12, n13, n14, rfl, c1, dflB_ok c3⟩
      | cons x r => cases c2
    | _ => cases c
theorem fnx_sup {K : PySem.W.Frag} {a : Addr} {n q : Str} {ps : Arguments} {b : List Stmt} {sc : Scope} (e : obsAt K a = some (n, q, ps, .stmts b, sc, mainGlobals, builtinsNs)) (c : okAt K a q true [] = true) :
    ∃ oc od osl kV doc pm an ct, K.lookup a = some ⟨oc, od, .func (PySem.W.ksFn n q ps b sc .none kV doc pm an (.ref (codeOf K a)) ct (cellOf K a)), osl⟩ ∧ PySem.W.codeIn K (.ref (codeOf K a)) q = true := by
  unfold obsAt at e
  unfold okAt at c
  cases lk : K.lookup a with
  | none =>
    rw [lk] at e
    cases e
  | some o =>
    obtain ⟨oc, od, dt, osl⟩ := o
    rw [lk] at c e
    cases dt with
    | func fd =>
      obtain ⟨n1, n2, n3, n4, n5, n6, n7, n8, n9, n10, n11, n12, n13, n14, n15⟩ := fd
      have e2 : (some (n1, n2, n3, n4, n5, n6, n15) : FnO) = some (n, q, ps, .stmts b, sc, mainGlobals, builtinsNs) := e
      simp only [Option.some.injEq, Prod.mk.injEq] at e2
      obtain ⟨h1, h2, h3, h4, h5, h6, h7⟩ := e2
      subst h1 h2 h3 h4 h5 h6 h7
      obtain ⟨c1, c2⟩ := He.ba c
      obtain ⟨c2, c3⟩ := He.ba c2
      have k0 : n8 = .none := by
        rcases dflB_ok c3 with ⟨_, z⟩ | ⟨z, _⟩
        · exact z
        · exact absurd rfl z
      subst k0
      have k1 : ∀ x, n13 = .ref x → codeOf K a = x := fun x hx => by
        unfold codeOf
        rw [lk]
        subst hx
        rfl
      cases n13 with
      | ref cd =>
        rw [k1 cd rfl]
        match n7, c2, lk with
        | [(x, cc)], c2, lk =>
          have ex : x = "__class__" := of_decide_eq_true c2
          subst ex
          have k2 : cellOf K a = cc := by
            unfold cellOf
            rw [lk]
          rw [k2]
          exact ⟨oc, od, osl, n9, n10, n11, n12, n14, rfl, c1⟩
      | _ => cases c1
    | _ => cases c
/-! ### other things that a top has written -/
def cvalB (K : PySem.W.Frag) (C : Addr) (x : Str) (i : Int) : Bool := match PySem.W.findCls K (.ref C) (.type "type") x with
  | some (.val (.int j _)) => decide (j = i)
  | _ => false
theorem cval_ok {K : PySem.W.Frag} {C : Addr} {x : Str} {i : Int} (h : cvalB K C x i = true) : ∃ t, PySem.W.findCls K (.ref C) (.type "type") x = some (.val (.int i t)) := by
  unfold cvalB at h
  split at h
  · rename_i j t e
    exact ⟨t, by rw [e, of_decide_eq_true h]⟩
  · cases h
def cmA (K : PySem.W.Frag) (C : Addr) (x : Str) : Addr := match PySem.W.findCls K (.ref C) (.type "type") x with
  | some (.get _ (.ref p) _ _) => p
  | _ => 0
def cmB (K : PySem.W.Frag) (C : Addr) (x : Str) (g : String) : Bool := match PySem.W.findCls K (.ref C) (.type "type") x with
  | some (.get f (.ref _) .none (.ref D)) => decide (f = .builtin g) && decide (D = C)
  | _ => false
theorem cm_ok {K : PySem.W.Frag} {C : Addr} {x : Str} {g : String} (h : cmB K C x g = true) : PySem.W.findCls K (.ref C) (.type "type") x = some (.get (.builtin g) (.ref (cmA K C x)) .none (.ref C)) := by
  unfold cmB at h
  unfold cmA
  split at h
  · rename_i f p D e
    obtain ⟨h1, h2⟩ := He.ba h
    rw [e, of_decide_eq_true h1, of_decide_eq_true h2]
  · cases h
def recA (K : PySem.W.Frag) (p : Addr) (n : String) : Addr := match PySem.W.recIn K p n with
  | some (.ref f :: _) => f
  | _ => 0
def recB (K : PySem.W.Frag) (p : Addr) (n : String) : Bool := match PySem.W.recIn K p n with
  | some (.ref _ :: _) => true
  | _ => false
theorem rec_ok {K : PySem.W.Frag} {p : Addr} {n : String} (h : recB K p n = true) : ∃ rs, PySem.W.recIn K p n = some (.ref (recA K p n) :: rs) := by
  unfold recB at h
  unfold recA
  split at h
  · rename_i f rs e
    exact ⟨rs, by rw [e]⟩
  · cases h
/-- the code object of a def knows the file -/
def fileB (K : PySem.W.Frag) (c : Addr) (file : Str) : Bool := match K.lookup c with
  | some ⟨_, _, .fields vs, _⟩ => (match (vs[2]? : Option Value) with
    | some (Value.str z _) => file == z
    | _ => false)
  | _ => false
theorem file_ok {K : PySem.W.Frag} {c : Addr} {file : Str} (h : fileB K c file = true) : ∃ ek ew ev er ef eg, K.lookup c = some ⟨ek, ew, .fields ev, er⟩ ∧ ev[2]? = some (.str ef eg) ∧ (file == ef) = true := by
  unfold fileB at h
  split at h
  · rename_i ek ew ev er e
    split at h
    · rename_i z t e2
      exact ⟨ek, ew, ev, er, z, t, e, e2, h⟩
    · cases h
  · cases h
def cellB (K : PySem.W.Frag) (c C : Addr) : Bool := match K.lookup c with
  | some ⟨_, _, .cell (some (.ref D)), _⟩ => decide (D = C)
  | _ => false
theorem cell_ok {K : PySem.W.Frag} {c C : Addr} (h : cellB K c C = true) : ∃ el eu eq, K.lookup c = some ⟨el, eu, .cell (some (.ref C)), eq⟩ := by
  unfold cellB at h
  split at h
  · rename_i el eu D eq e
    exact ⟨el, eu, eq, by rw [e, of_decide_eq_true h]⟩
  · cases h
/-! ### the Hook -/
abbrev AlB : Type := Bool × List FnO
def obsB (B : PySem.W.Frag → Bool) (fn : List FnX) (K : PySem.W.Frag) : AlB := (B K && fn.all fun d => okAt K (d.adr K) d.qual d.sup d.dvs, fn.map fun d => obsAt K (d.adr K))
def valB (fn : List FnX) : AlB := (true, fn.map FnX.val)
def SaysB (B : PySem.W.Frag → Bool) (fn : List FnX) (K : PySem.W.Frag) : Prop := obsB B fn K = valB fn
def obsBG (as : (Addr → Option Obj) → List Addr) (B : PySem.W.Frag → Bool) (fn : List FnX) (g : Addr → Option Obj) : AlB := forceK g (as g) fun K => obsB B fn K
def hookB (as : (Addr → Option Obj) → List Addr) (B : PySem.W.Frag → Bool) (fn : List FnX) : PySem.W.Hook where
  α := AlB
  obs := fun s => obsBG as B fn s.heap.get?
  val := fun _ => valB fn
  says := fun _ h => ∃ K : PySem.W.Frag, K.In h ∧ SaysB B fn K
  of := fun _ _ e => ⟨_, He.frG_in, by rw [obsBG, forceK_eq] at e; exact e⟩
  keeps := fun _ _ _ ⟨K, hK, c⟩ k => ⟨K, PySem.W.Frag.In.keeps hK k, c⟩
theorem obsBG_eq {as : (Addr → Option Obj) → List Addr} {B : PySem.W.Frag → Bool} {fn : List FnX} {g : Addr → Option Obj} {s : Shared} (h : ∀ a, g a = s.heap.get? a) : obsBG as B fn g = (hookB as B fn).obs s := by
  have e : g = s.heap.get? := funext h
  rw [e] <;> rfl
section
variable {B : PySem.W.Frag → Bool} {fn : List FnX} {K : PySem.W.Frag}
theorem SaysB.bool (c : SaysB B fn K) : B K = true := (He.ba (show (B K && fn.all fun d => okAt K (d.adr K) d.qual d.sup d.dvs) = true from congrArg (fun z : AlB => z.1) c)).1
theorem SaysB.def_ (c : SaysB B fn K) (i : Nat) {d : FnX} (h : fn[i]? = some d := by rfl) : obsAt K (d.adr K) = some (d.name, d.qual, d.params, .stmts d.body, d.scope, mainGlobals, builtinsNs) ∧ okAt K (d.adr K) d.qual d.sup d.dvs = true := by
  have c2 := (He.ba (show (B K && fn.all fun d => okAt K (d.adr K) d.qual d.sup d.dvs) = true from congrArg (fun z : AlB => z.1) c)).2
  have e : fn.map (fun d => obsAt K (d.adr K)) = fn.map FnX.val := congrArg (fun z : AlB => z.2) c
  have e2 : (fn.map fun d => obsAt K (d.adr K))[i]? = (fn.map FnX.val)[i]? := by rw [e]
  rw [List.getElem?_map, List.getElem?_map, h] at e2
  exact ⟨Option.some.inj e2, List.all_eq_true.mp c2 d (List.mem_of_getElem? h)⟩
end
def ecB (K : PySem.W.Frag) (C : Addr) : Bool := match K.lookup C with
  | some ⟨c, _, .cls ⟨_, _, .ref C' :: bm, _, _, hd, _, _, _, _, del⟩, ⟨[_, _, _, _, some nw, _]⟩⟩ => decide (c = .type "type") && (decide (C' = C) && (PySem.HandSPX.refsVE bm && (hd && (!del && decide (nw = .builtin "ValueError.__new__")))))
  | _ => false
end Hd
namespace Hd
theorem map3 {σ α β γ δ : Type} {o : Option σ} {f : σ → α} {g : σ → β} {h : σ → γ × δ} {a : α} {b : β} {c : γ} {d : δ} (e1 : o.map (fun s => (f s, g s)) = some (a, b)) (e2 : o.map (fun s => (h s).1) = some c) (e3 : o.map (fun s => (h s).2) = some d) :
    o.map (fun s => (f s, g s, h s)) = some (a, b, (c, d)) := by
  cases o with
  | none => cases e1
  | some s =>
    have e1 := Option.some.inj e1
    have e2 := Option.some.inj e2
    have e3 := Option.some.inj e3
    have e4 := congrArg Prod.fst e1
    have e5 := congrArg Prod.snd e1
    show some (f s, g s, h s) = _
    rw [show f s = a from e4, show g s = b from e5, ← e2, ← e3]
end Hd
namespace Dg
open PySem PySem.Spec L2
def top (i : Nat) : Stmt := PySem.Challenge.pw_murmurline_k07_whole_repeated.main.body.getD i (.Pass ⟨0, 0, 0, 0⟩)
abbrev c_Table : Stmt := top 31
abbrev s__law_box : Stmt := top 36
abbrev N__law_box : List Str := ["_law_script", "_law_cell"]
theorem sc__law_box : FnScope N__law_box ["_law_script"] (defScope s__law_box) := ⟨rfl, rfl, rfl, by decide +kernel, rfl, by decide +kernel, by decide +kernel⟩
abbrev s__law_take : Stmt := top 37
abbrev N__law_take : List Str := ["_law_box_here", "_law_many", "_law_digit", "_law_cell"]
theorem sc__law_take : FnScope N__law_take ["_law_box_here", "_law_many"] (defScope s__law_take) := ⟨rfl, rfl, rfl, by decide +kernel, rfl, by decide +kernel, by decide +kernel⟩
abbrev s__law_words : Stmt := top 38
abbrev N__law_words : List Str := ["_law_box_here", "_law_n", "_law_least", "_law_mask", "_law_word"]
theorem sc__law_words : FnScope N__law_words ["_law_box_here", "_law_n", "_law_least"] (defScope s__law_words) := ⟨rfl, rfl, rfl, by decide +kernel, rfl, by decide +kernel, by decide +kernel⟩
abbrev s__law_rows : Stmt := top 39
abbrev N__law_rows : List Str := ["_law_box_here", "_law_n", "_law_least", "_law_rows_here", "_law_k"]
theorem sc__law_rows : FnScope N__law_rows ["_law_box_here", "_law_n", "_law_least"] (defScope s__law_rows) := ⟨rfl, rfl, rfl, by decide +kernel, rfl, by decide +kernel, by decide +kernel⟩
abbrev s_is_size : Stmt := top 23
abbrev N_is_size : List Str := ["size"]
theorem sc_is_size : FnScope N_is_size ["size"] (defScope s_is_size) := ⟨rfl, rfl, rfl, by decide +kernel, rfl, by decide +kernel, by decide +kernel⟩
abbrev s_check_size : Stmt := top 24
abbrev N_check_size : List Str := ["size"]
theorem sc_check_size : FnScope N_check_size ["size"] (defScope s_check_size) := ⟨rfl, rfl, rfl, by decide +kernel, rfl, by decide +kernel, by decide +kernel⟩
abbrev s_is_word : Stmt := top 26
abbrev N_is_word : List Str := ["word", "size"]
theorem sc_is_word : FnScope N_is_word ["word", "size"] (defScope s_is_word) := ⟨rfl, rfl, rfl, by decide +kernel, rfl, by decide +kernel, by decide +kernel⟩
abbrev s_all_words : Stmt := top 27
abbrev N_all_words : List Str := ["words", "size", "word"]
theorem sc_all_words : FnScope N_all_words ["words", "size"] (defScope s_all_words) := ⟨rfl, rfl, rfl, by decide +kernel, rfl, by decide +kernel, by decide +kernel⟩
abbrev s_ascending : Stmt := top 30
abbrev N_ascending : List Str := ["words", "size", "word"]
theorem sc_ascending : FnScope N_ascending ["words", "size"] (defScope s_ascending) := ⟨rfl, rfl, rfl, by decide +kernel, rfl, by decide +kernel, by decide +kernel⟩
abbrev s_Table___init__ : Stmt := inClass c_Table 1
abbrev N_Table___init__ : List Str := ["self", "rows", "size", "index", "row", "told", "out"]
theorem sc_Table___init__ : FnScope N_Table___init__ ["self", "rows"] (defScope s_Table___init__) := ⟨rfl, rfl, rfl, by decide +kernel, rfl, by decide +kernel, by decide +kernel⟩
abbrev s__law_is_int : Stmt := top 40
abbrev N__law_is_int : List Str := ["_law_value"]
theorem sc__law_is_int : FnScope N__law_is_int ["_law_value"] (defScope s__law_is_int) := ⟨rfl, rfl, rfl, by decide +kernel, rfl, by decide +kernel, by decide +kernel⟩
abbrev s_Table_rows : Stmt := inClass c_Table 6
abbrev N_Table_rows : List Str := ["self", "row"]
theorem sc_Table_rows : FnScope N_Table_rows ["self"] (defScope s_Table_rows) := ⟨rfl, rfl, rfl, by decide +kernel, rfl, by decide +kernel, by decide +kernel⟩
abbrev s__law_is_words : Stmt := top 41
abbrev N__law_is_words : List Str := ["_law_value", "_law_one"]
theorem sc__law_is_words : FnScope N__law_is_words ["_law_value"] (defScope s__law_is_words) := ⟨rfl, rfl, rfl, by decide +kernel, rfl, by decide +kernel, by decide +kernel⟩
abbrev s__law_same : Stmt := top 42
abbrev N__law_same : List Str := ["_law_table", "_law_rows_here", "_law_told", "_law_k"]
theorem sc__law_same : FnScope N__law_same ["_law_table", "_law_rows_here"] (defScope s__law_same) := ⟨rfl, rfl, rfl, by decide +kernel, rfl, by decide +kernel, by decide +kernel⟩
abbrev s_Table_identity : Stmt := inClass c_Table 2
abbrev N_Table_identity : List Str := ["cls", "size", "word"]
theorem sc_Table_identity : FnScope N_Table_identity ["cls", "size"] (defScope s_Table_identity) := ⟨rfl, rfl, rfl, by decide +kernel, rfl, by decide +kernel, by decide +kernel⟩
abbrev s_check_same_size : Stmt := top 25
abbrev N_check_same_size : List Str := ["first", "second"]
theorem sc_check_same_size : FnScope N_check_same_size ["first", "second"] (defScope s_check_same_size) := ⟨rfl, rfl, rfl, by decide +kernel, rfl, by decide +kernel, by decide +kernel⟩
abbrev s_Table__out_of_some : Stmt := inClass c_Table 11
abbrev N_Table__out_of_some : List Str := ["self", "words", "word", "out"]
theorem sc_Table__out_of_some : FnScope N_Table__out_of_some ["self", "words"] (defScope s_Table__out_of_some) := ⟨rfl, rfl, rfl, by decide +kernel, rfl, by decide +kernel, by decide +kernel⟩
abbrev s_Table___mul__ : Stmt := inClass c_Table 29
abbrev N_Table___mul__ : List Str := ["self", "other", "row"]
theorem sc_Table___mul__ : FnScope N_Table___mul__ ["self", "other"] (defScope s_Table___mul__) := ⟨rfl, rfl, rfl, by decide +kernel, rfl, by decide +kernel, by decide +kernel⟩
abbrev s_Table_repeated : Stmt := inClass c_Table 10
abbrev N_Table_repeated : List Str := ["self", "count", "whole", "power"]
theorem sc_Table_repeated : FnScope N_Table_repeated ["self", "count"] (defScope s_Table_repeated) := ⟨rfl, rfl, rfl, by decide +kernel, rfl, by decide +kernel, by decide +kernel⟩
abbrev s__law_same_rows : Stmt := top 34
abbrev N__law_same_rows : List Str := ["_law_n", "_law_word"]
theorem sc__law_same_rows : FnScope N__law_same_rows ["_law_n"] (defScope s__law_same_rows) := ⟨rfl, rfl, rfl, by decide +kernel, rfl, by decide +kernel, by decide +kernel⟩
abbrev s__law_join : Stmt := top 35
abbrev N__law_join : List Str := ["_law_first", "_law_last", "_law_found", "_law_row", "_law_outs", "_law_mid", "_law_out", "_law_word"]
theorem sc__law_join : FnScope N__law_join ["_law_first", "_law_last"] (defScope s__law_join) := ⟨rfl, rfl, rfl, by decide +kernel, rfl, by decide +kernel, by decide +kernel⟩
abbrev s__law_power : Stmt := top 44
abbrev N__law_power : List Str := ["_law_rows_here", "_law_count", "_law_powers", "_law_known", "_law_k", "_law_after", "_law_lead"]
theorem sc__law_power : FnScope N__law_power ["_law_rows_here", "_law_count"] (defScope s__law_power) := ⟨rfl, rfl, rfl, by decide +kernel, rfl, by decide +kernel, by decide +kernel⟩
abbrev s__law_count_error : Stmt := top 43
abbrev N__law_count_error : List Str := ["_law_table", "_law_count", "_law_e"]
theorem sc__law_count_error : FnScope N__law_count_error ["_law_table", "_law_count"] (defScope s__law_count_error) := ⟨rfl, rfl, rfl, by decide +kernel, rfl, by decide +kernel, by decide +kernel⟩
abbrev s_law_k07 : Stmt := top 45
abbrev N_law_k07 : List Str := ["_law_script", "_law_box_here", "_law_n", "_law_rows_here", "_law_table", "_law_kind", "_law_count", "_law_wrong", "_law_row"]
theorem sc_law_k07 : FnScope N_law_k07 ["_law_script"] (defScope s_law_k07) := ⟨rfl, rfl, rfl, by decide +kernel, rfl, by decide +kernel, by decide +kernel⟩
abbrev s__law_single : Stmt := top 33
abbrev N__law_single : List Str := ["_law_e", "_law_kinds", "_law_kind"]
theorem sc__law_single : FnScope N__law_single ["_law_e"] (defScope s__law_single) := ⟨rfl, rfl, rfl, by decide +kernel, rfl, by decide +kernel, by decide +kernel⟩
end Dg
namespace Dg
open PySem PySem.Spec L2
abbrev sBadSize : Stmt := top 3
abbrev sBadSizeI : Stmt := inClass sBadSize 0
abbrev sBadTable : Stmt := top 4
abbrev sBadTableI : Stmt := inClass sBadTable 0
abbrev sSizeMismatch : Stmt := top 6
abbrev sSizeMismatchI : Stmt := inClass sSizeMismatch 0
abbrev sBadCount : Stmt := top 7
abbrev sBadCountI : Stmt := inClass sBadCount 0
def hdB0 (K : PySem.W.Frag) : Bool := He.eqO (PySem.W.nsIn K mainGlobals "abs") (some none) && (He.eqO (PySem.W.nsIn K mainGlobals "all") (some none) && (He.eqO (PySem.W.nsIn K mainGlobals "bool") (some none) && (He.eqO (PySem.W.nsIn K mainGlobals "enumerate") (some none) && (He.eqO (PySem.W.nsIn K mainGlobals "int") (some none) && (He.eqO (PySem.W.nsIn K mainGlobals "isinstance") (some none) && (He.eqO (PySem.W.nsIn K mainGlobals "len") (some none) && (He.eqO (PySem.W.nsIn K mainGlobals "list") (some none) && (He.eqO (PySem.W.nsIn K mainGlobals "range") (some none) && (He.eqO (PySem.W.nsIn K mainGlobals "str") (some none) && (He.eqO (PySem.W.nsIn K mainGlobals "tuple") (some none) && (PySem.W.keepIn K (.ref (He.ga K "_law_box")) && (He.eqO (PySem.W.nsIn K mainGlobals "_law_box") (some (some (.ref (He.ga K "_law_box")))) && (PySem.W.keepIn K (.ref (He.ga K "_law_take")) && (He.eqO (PySem.W.nsIn K mainGlobals "_law_take") (some (some (.ref (He.ga K "_law_take")))) && (PySem.W.keepIn K (.ref (He.ga K "_law_words")) && (He.eqO (PySem.W.nsIn K mainGlobals "_law_words") (some (some (.ref (He.ga K "_law_words")))) && (PySem.W.keepIn K (.ref (He.ga K "_law_rows")) && (He.eqO (PySem.W.nsIn K mainGlobals "_law_rows") (some (some (.ref (He.ga K "_law_rows")))) && (PySem.W.keepIn K (.ref (He.ga K "is_size")))))))))))))))))))))
def hdB1 (K : PySem.W.Frag) : Bool := He.eqO (PySem.W.nsIn K mainGlobals "is_size") (some (some (.ref (He.ga K "is_size")))) && (PySem.W.keepIn K (.ref (He.ga K "check_size")) && (He.eqO (PySem.W.nsIn K mainGlobals "check_size") (some (some (.ref (He.ga K "check_size")))) && (PySem.W.keepIn K (.ref (He.ga K "is_word")) && (He.eqO (PySem.W.nsIn K mainGlobals "is_word") (some (some (.ref (He.ga K "is_word")))) && (PySem.W.keepIn K (.ref (He.ga K "all_words")) && (He.eqO (PySem.W.nsIn K mainGlobals "all_words") (some (some (.ref (He.ga K "all_words")))) && (PySem.W.keepIn K (.ref (He.ga K "ascending")) && (He.eqO (PySem.W.nsIn K mainGlobals "ascending") (some (some (.ref (He.ga K "ascending")))) && (PySem.W.keepIn K (.ref (He.ma K (He.ga K "Table") "__init__")) && (PySem.W.isFn K (.ref (He.ma K (He.ga K "Table") "__init__")) && (PySem.W.makesIn K (He.ga K "Table") && (He.eqO (PySem.W.findIn K (.ref (He.ga K "Table")) "__init__") (some (some (.ref (He.ma K (He.ga K "Table") "__init__")))) && (PySem.W.keepIn K (.ref (He.ga K "Table")) && (PySem.W.keepIn K (.ref (He.ga K "_law_is_int")) && (He.eqO (PySem.W.nsIn K mainGlobals "_law_is_int") (some (some (.ref (He.ga K "_law_is_int")))) && (PySem.W.keepIn K (.ref (He.ma K (He.ga K "Table") "rows")) && (PySem.W.isFn K (.ref (He.ma K (He.ga K "Table") "rows")) && (He.eqO (PySem.W.findIn K (.ref (He.ga K "Table")) "rows") (some (some (.ref (He.ma K (He.ga K "Table") "rows")))) && (PySem.W.keepIn K (.ref (He.ga K "_law_is_words")))))))))))))))))))))
def hdB2 (K : PySem.W.Frag) : Bool := He.eqO (PySem.W.nsIn K mainGlobals "_law_is_words") (some (some (.ref (He.ga K "_law_is_words")))) && (PySem.W.keepIn K (.ref (He.ga K "_law_same")) && (He.eqO (PySem.W.nsIn K mainGlobals "_law_same") (some (some (.ref (He.ga K "_law_same")))) && (PySem.W.keepIn K (.ref (Hd.recA K (Hd.cmA K (He.ga K "Table") "identity") "classmethod")) && (Hd.cmB K (He.ga K "Table") "identity" "classmethod.__get__" && (Hd.recB K (Hd.cmA K (He.ga K "Table") "identity") "classmethod" && (PySem.W.fnIn K (Hd.recA K (Hd.cmA K (He.ga K "Table") "identity") "classmethod") && (PySem.W.keepIn K (.ref (He.ga K "check_same_size")) && (He.eqO (PySem.W.nsIn K mainGlobals "check_same_size") (some (some (.ref (He.ga K "check_same_size")))) && (PySem.W.keepIn K (.ref (He.ma K (He.ga K "Table") "_out_of_some")) && (PySem.W.isFn K (.ref (He.ma K (He.ga K "Table") "_out_of_some")) && (He.eqO (PySem.W.findIn K (.ref (He.ga K "Table")) "_out_of_some") (some (some (.ref (He.ma K (He.ga K "Table") "_out_of_some")))) && (PySem.W.keepIn K (.ref (He.ma K (He.ga K "Table") "__mul__")) && (PySem.W.isFn K (.ref (He.ma K (He.ga K "Table") "__mul__")) && (He.eqO (PySem.W.findIn K (.ref (He.ga K "Table")) "__mul__") (some (some (.ref (He.ma K (He.ga K "Table") "__mul__")))) && (PySem.W.keepIn K (.ref (He.ma K (He.ga K "Table") "repeated")) && (PySem.W.isFn K (.ref (He.ma K (He.ga K "Table") "repeated")) && (He.eqO (PySem.W.findIn K (.ref (He.ga K "Table")) "repeated") (some (some (.ref (He.ma K (He.ga K "Table") "repeated")))) && (PySem.W.keepIn K (.ref (He.ga K "_law_same_rows")) && (He.eqO (PySem.W.nsIn K mainGlobals "_law_same_rows") (some (some (.ref (He.ga K "_law_same_rows")))))))))))))))))))))))
def hdB3 (K : PySem.W.Frag) : Bool := PySem.W.keepIn K (.ref (He.ga K "_law_join")) && (He.eqO (PySem.W.nsIn K mainGlobals "_law_join") (some (some (.ref (He.ga K "_law_join")))) && (PySem.W.keepIn K (.ref (He.ga K "_law_power")) && (He.eqO (PySem.W.nsIn K mainGlobals "_law_power") (some (some (.ref (He.ga K "_law_power")))) && (PySem.W.keepIn K (.ref (He.ga K "_law_count_error")) && (He.eqO (PySem.W.nsIn K mainGlobals "_law_count_error") (some (some (.ref (He.ga K "_law_count_error")))) && (PySem.W.keepIn K (.ref (He.ga K "law")) && (He.eqO (PySem.W.nsIn K mainGlobals "law") (some (some (.ref (He.ga K "law")))) && (PySem.W.plainGet K (He.ga K "Table") Str.empty && (PySem.W.hasDictIn K (He.ga K "Table") && (PySem.W.plainOver K (He.ga K "Table") && (He.eqO (PySem.W.findIn K (.ref (He.ga K "Table")) "__setattr__") (some (some (.builtin "object.__setattr__"))) && (He.eqO (PySem.W.findIn K (.ref (He.ga K "Table")) "size") (some none) && (He.eqO (PySem.W.findIn K (.ref (He.ga K "Table")) "_pairs") (some none) && (He.eqO (PySem.W.findIn K (.ref (He.ga K "Table")) "_rows") (some none) && (He.eqO (PySem.W.nsIn K mainGlobals "Table") (some (some (.ref (He.ga K "Table")))) && (PySem.W.selfFirst K (He.ga K "Table") && (PySem.W.readsIn K (He.ga K "Table") (.type "type") && (He.eqO (PySem.W.specialIn K (.ref (He.ga K "Table")) "__getattribute__") (some (some (.builtin "type.__getattribute__"))) && (Hd.cvalB K (He.ga K "Table") "MOST" 6)))))))))))))))))))
def hdB4 (K : PySem.W.Frag) : Bool := He.eqO (PySem.W.findIn K (.ref (He.ga K "Table")) "__class__") (some (some (.builtin "object.__class__"))) && (He.eqO (PySem.W.specialIn K (.builtin "object.__class__") "__get__") (some (some (.builtin "getset_descriptor.__get__"))) && (decide (PySem.W.takesIn K (.builtin "object.__class__") = some true) && (decide (PySem.W.mroIn K (He.ga K "Table") (.type "object") = some true) && (decide (PySem.W.subIn K (.ref (He.ga K "Table")) (.ref (He.ga K "Table")) = some true) && ((PySem.W.clsIn K (He.ga K "Table")).isSome && (decide (PySem.W.typeIn K (.ref (He.ga K "Table")) = some (.type "type")) && (decide (PySem.W.subIn K (.type "NoneType") (.ref (He.ga K "Table")) = some false) && (decide (PySem.W.subIn K (.type "bool") (.ref (He.ga K "Table")) = some false) && (decide (PySem.W.subIn K (.type "int") (.ref (He.ga K "Table")) = some false) && (decide (PySem.W.subIn K (.type "str") (.ref (He.ga K "Table")) = some false) && (decide (PySem.W.subIn K (.type "list") (.ref (He.ga K "Table")) = some false) && (decide (PySem.W.subIn K (.type "tuple") (.ref (He.ga K "Table")) = some false) && (He.eqO (PySem.W.nsIn K mainGlobals "MurmurError") (some (some (.ref (He.ga K "MurmurError")))) && (He.eqO (PySem.W.nsIn K mainGlobals "BadSize") (some (some (.ref (He.ga K "BadSize")))) && (He.eqO (PySem.W.nsIn K mainGlobals "BadTable") (some (some (.ref (He.ga K "BadTable")))) && (He.eqO (PySem.W.nsIn K mainGlobals "UnknownWord") (some (some (.ref (He.ga K "UnknownWord")))) && (He.eqO (PySem.W.nsIn K mainGlobals "SizeMismatch") (some (some (.ref (He.ga K "SizeMismatch")))) && (He.eqO (PySem.W.nsIn K mainGlobals "BadCount") (some (some (.ref (He.ga K "BadCount")))) && (He.eqO (PySem.W.nsIn K mainGlobals "BadPerson") (some (some (.ref (He.ga K "BadPerson")))))))))))))))))))))))
def hdB5 (K : PySem.W.Frag) : Bool := He.eqO (PySem.W.nsIn K mainGlobals "BadLetter") (some (some (.ref (He.ga K "BadLetter")))) && (He.eqO (PySem.W.nsIn K mainGlobals "UnknownPerson") (some (some (.ref (He.ga K "UnknownPerson")))) && (He.eqO (PySem.W.nsIn K mainGlobals "TooMany") (some (some (.ref (He.ga K "TooMany")))) && (He.eqO (PySem.W.nsIn K mainGlobals "BadPattern") (some (some (.ref (He.ga K "BadPattern")))) && (He.eqO (PySem.W.nsIn K mainGlobals "SameWord") (some (some (.ref (He.ga K "SameWord")))) && (He.eqO (PySem.W.nsIn K mainGlobals "UnknownClue") (some (some (.ref (He.ga K "UnknownClue")))) && (He.eqO (PySem.W.nsIn K mainGlobals "BadPlace") (some (some (.ref (He.ga K "BadPlace")))) && (He.eqO (PySem.W.nsIn K mainGlobals "TooLong") (some (some (.ref (He.ga K "TooLong")))) && (He.eqO (PySem.W.nsIn K mainGlobals "Melted") (some (some (.ref (He.ga K "Melted")))) && (He.eqO (PySem.W.nsIn K mainGlobals "NothingToUndo") (some (some (.ref (He.ga K "NothingToUndo")))) && (He.eqO (PySem.W.nsIn K mainGlobals "NothingToRedo") (some (some (.ref (He.ga K "NothingToRedo")))) && (He.eqO (PySem.W.nsIn K mainGlobals "Refused") (some (some (.ref (He.ga K "Refused")))) && (He.eqO (PySem.W.nsIn K mainGlobals "BadLine") (some (some (.ref (He.ga K "BadLine")))) && (He.eqO (PySem.W.nsIn K mainGlobals "ValueError") (some none) && (Hd.ecB K (He.ga K "BadSize") && (He.eqO (PySem.W.findIn K (.ref (He.ga K "BadSize")) "__setattr__") (some (some (.builtin "object.__setattr__"))) && (decide (PySem.W.subIn K (.ref (He.ga K "BadSize")) (.type "BaseException") = some true) && (decide (PySem.W.typeIn K (.ref (He.ga K "BadSize")) = some (.type "type")) && (PySem.W.keepIn K (.ref (He.ga K "BadSize")) && (decide (PySem.W.mroIn K (He.ga K "BadSize") (.ref (He.ga K "BadSize")) = some true))))))))))))))))))))
def hdB6 (K : PySem.W.Frag) : Bool := decide (PySem.W.subIn K (.ref (He.ga K "BadSize")) (.type "ValueError") = some true) && (He.eqO (PySem.W.ks_superIn K (He.ga K "BadSize") (He.ga K "BadSize") "__init__") (some (some (.builtin "ValueError.__init__"))) && (He.eqO (PySem.W.nsIn K mainGlobals "super") (some none) && (He.eqO (PySem.W.nsIn K cStatics "thirdparty.any") (some none) && (Hd.fileB K (Hd.codeOf K (He.ma K (He.ga K "BadSize") "__init__")) (PySem.Challenge.rw_murmurline_k07_whole_repeated).prog.main.file && (Hd.cellB K (Hd.cellOf K (He.ma K (He.ga K "BadSize") "__init__")) (He.ga K "BadSize") && (He.eqO (PySem.W.findIn K (.ref (He.ga K "BadSize")) "__init__") (some (some (.ref (He.ma K (He.ga K "BadSize") "__init__")))) && (decide (PySem.W.typeIn K (.ref (He.ma K (He.ga K "BadSize") "__init__")) = some (.type "function")) && (He.eqO (PySem.W.findIn K (.ref (He.ga K "BadSize")) "size") (some none) && (He.eqO (PySem.W.findIn K (.ref (He.ga K "BadSize")) "__getattribute__") (some (some (.builtin "BaseException.__getattribute__"))) && (He.eqO (PySem.W.findIn K (.ref (He.ga K "BadSize")) "__getattr__") (some none) && (PySem.W.hasDictIn K (He.ga K "BadSize") && (He.eqO (PySem.W.findIn K (.ref (He.ga K "BadSize")) "__class__") (some (some (.builtin "object.__class__"))) && (decide (PySem.W.mroIn K (He.ga K "BadSize") (.type "object") = some true) && (decide (PySem.W.subIn K (.ref (He.ga K "BadSize")) (.ref (He.ga K "BadSize")) = some true) && ((PySem.W.clsIn K (He.ga K "BadSize")).isSome && ((PySem.W.clsIn K (He.ga K "BadTable")).isSome && (decide (PySem.W.typeIn K (.ref (He.ga K "BadTable")) = some (.type "type")) && (decide (PySem.W.subIn K (.ref (He.ga K "BadSize")) (.ref (He.ga K "BadTable")) = some false) && ((PySem.W.clsIn K (He.ga K "UnknownWord")).isSome)))))))))))))))))))
def hdB7 (K : PySem.W.Frag) : Bool := decide (PySem.W.typeIn K (.ref (He.ga K "UnknownWord")) = some (.type "type")) && (decide (PySem.W.subIn K (.ref (He.ga K "BadSize")) (.ref (He.ga K "UnknownWord")) = some false) && ((PySem.W.clsIn K (He.ga K "SizeMismatch")).isSome && (decide (PySem.W.typeIn K (.ref (He.ga K "SizeMismatch")) = some (.type "type")) && (decide (PySem.W.subIn K (.ref (He.ga K "BadSize")) (.ref (He.ga K "SizeMismatch")) = some false) && ((PySem.W.clsIn K (He.ga K "BadCount")).isSome && (decide (PySem.W.typeIn K (.ref (He.ga K "BadCount")) = some (.type "type")) && (decide (PySem.W.subIn K (.ref (He.ga K "BadSize")) (.ref (He.ga K "BadCount")) = some false) && ((PySem.W.clsIn K (He.ga K "BadPerson")).isSome && (decide (PySem.W.typeIn K (.ref (He.ga K "BadPerson")) = some (.type "type")) && (decide (PySem.W.subIn K (.ref (He.ga K "BadSize")) (.ref (He.ga K "BadPerson")) = some false) && ((PySem.W.clsIn K (He.ga K "BadLetter")).isSome && (decide (PySem.W.typeIn K (.ref (He.ga K "BadLetter")) = some (.type "type")) && (decide (PySem.W.subIn K (.ref (He.ga K "BadSize")) (.ref (He.ga K "BadLetter")) = some false) && ((PySem.W.clsIn K (He.ga K "UnknownPerson")).isSome && (decide (PySem.W.typeIn K (.ref (He.ga K "UnknownPerson")) = some (.type "type")) && (decide (PySem.W.subIn K (.ref (He.ga K "BadSize")) (.ref (He.ga K "UnknownPerson")) = some false) && ((PySem.W.clsIn K (He.ga K "TooMany")).isSome && (decide (PySem.W.typeIn K (.ref (He.ga K "TooMany")) = some (.type "type")) && (decide (PySem.W.subIn K (.ref (He.ga K "BadSize")) (.ref (He.ga K "TooMany")) = some false))))))))))))))))))))
def hdB8 (K : PySem.W.Frag) : Bool := (PySem.W.clsIn K (He.ga K "BadPattern")).isSome && (decide (PySem.W.typeIn K (.ref (He.ga K "BadPattern")) = some (.type "type")) && (decide (PySem.W.subIn K (.ref (He.ga K "BadSize")) (.ref (He.ga K "BadPattern")) = some false) && ((PySem.W.clsIn K (He.ga K "SameWord")).isSome && (decide (PySem.W.typeIn K (.ref (He.ga K "SameWord")) = some (.type "type")) && (decide (PySem.W.subIn K (.ref (He.ga K "BadSize")) (.ref (He.ga K "SameWord")) = some false) && ((PySem.W.clsIn K (He.ga K "UnknownClue")).isSome && (decide (PySem.W.typeIn K (.ref (He.ga K "UnknownClue")) = some (.type "type")) && (decide (PySem.W.subIn K (.ref (He.ga K "BadSize")) (.ref (He.ga K "UnknownClue")) = some false) && ((PySem.W.clsIn K (He.ga K "BadPlace")).isSome && (decide (PySem.W.typeIn K (.ref (He.ga K "BadPlace")) = some (.type "type")) && (decide (PySem.W.subIn K (.ref (He.ga K "BadSize")) (.ref (He.ga K "BadPlace")) = some false) && ((PySem.W.clsIn K (He.ga K "TooLong")).isSome && (decide (PySem.W.typeIn K (.ref (He.ga K "TooLong")) = some (.type "type")) && (decide (PySem.W.subIn K (.ref (He.ga K "BadSize")) (.ref (He.ga K "TooLong")) = some false) && ((PySem.W.clsIn K (He.ga K "Melted")).isSome && (decide (PySem.W.typeIn K (.ref (He.ga K "Melted")) = some (.type "type")) && (decide (PySem.W.subIn K (.ref (He.ga K "BadSize")) (.ref (He.ga K "Melted")) = some false) && ((PySem.W.clsIn K (He.ga K "NothingToUndo")).isSome && (decide (PySem.W.typeIn K (.ref (He.ga K "NothingToUndo")) = some (.type "type")))))))))))))))))))))
def hdB9 (K : PySem.W.Frag) : Bool := decide (PySem.W.subIn K (.ref (He.ga K "BadSize")) (.ref (He.ga K "NothingToUndo")) = some false) && ((PySem.W.clsIn K (He.ga K "NothingToRedo")).isSome && (decide (PySem.W.typeIn K (.ref (He.ga K "NothingToRedo")) = some (.type "type")) && (decide (PySem.W.subIn K (.ref (He.ga K "BadSize")) (.ref (He.ga K "NothingToRedo")) = some false) && ((PySem.W.clsIn K (He.ga K "Refused")).isSome && (decide (PySem.W.typeIn K (.ref (He.ga K "Refused")) = some (.type "type")) && (decide (PySem.W.subIn K (.ref (He.ga K "BadSize")) (.ref (He.ga K "Refused")) = some false) && ((PySem.W.clsIn K (He.ga K "BadLine")).isSome && (decide (PySem.W.typeIn K (.ref (He.ga K "BadLine")) = some (.type "type")) && (decide (PySem.W.subIn K (.ref (He.ga K "BadSize")) (.ref (He.ga K "BadLine")) = some false) && ((PySem.W.clsIn K (He.ga K "MurmurError")).isSome && (decide (PySem.W.typeIn K (.ref (He.ga K "MurmurError")) = some (.type "type")) && (decide (PySem.W.subIn K (.ref (He.ga K "BadSize")) (.ref (He.ga K "MurmurError")) = some true) && (Hd.ecB K (He.ga K "BadTable") && (He.eqO (PySem.W.findIn K (.ref (He.ga K "BadTable")) "__setattr__") (some (some (.builtin "object.__setattr__"))) && (decide (PySem.W.subIn K (.ref (He.ga K "BadTable")) (.type "BaseException") = some true) && (PySem.W.keepIn K (.ref (He.ga K "BadTable")) && (decide (PySem.W.mroIn K (He.ga K "BadTable") (.ref (He.ga K "BadTable")) = some true) && (decide (PySem.W.subIn K (.ref (He.ga K "BadTable")) (.type "ValueError") = some true) && (He.eqO (PySem.W.ks_superIn K (He.ga K "BadTable") (He.ga K "BadTable") "__init__") (some (some (.builtin "ValueError.__init__"))))))))))))))))))))))
def hdB10 (K : PySem.W.Frag) : Bool := Hd.fileB K (Hd.codeOf K (He.ma K (He.ga K "BadTable") "__init__")) (PySem.Challenge.rw_murmurline_k07_whole_repeated).prog.main.file && (Hd.cellB K (Hd.cellOf K (He.ma K (He.ga K "BadTable") "__init__")) (He.ga K "BadTable") && (He.eqO (PySem.W.findIn K (.ref (He.ga K "BadTable")) "__init__") (some (some (.ref (He.ma K (He.ga K "BadTable") "__init__")))) && (decide (PySem.W.typeIn K (.ref (He.ma K (He.ga K "BadTable") "__init__")) = some (.type "function")) && (He.eqO (PySem.W.findIn K (.ref (He.ga K "BadTable")) "index") (some none) && (He.eqO (PySem.W.findIn K (.ref (He.ga K "BadTable")) "__getattribute__") (some (some (.builtin "BaseException.__getattribute__"))) && (He.eqO (PySem.W.findIn K (.ref (He.ga K "BadTable")) "__getattr__") (some none) && (PySem.W.hasDictIn K (He.ga K "BadTable") && (He.eqO (PySem.W.findIn K (.ref (He.ga K "BadTable")) "__class__") (some (some (.builtin "object.__class__"))) && (decide (PySem.W.mroIn K (He.ga K "BadTable") (.type "object") = some true) && (decide (PySem.W.subIn K (.ref (He.ga K "BadTable")) (.ref (He.ga K "BadTable")) = some true) && (decide (PySem.W.subIn K (.ref (He.ga K "BadTable")) (.ref (He.ga K "BadSize")) = some false) && (decide (PySem.W.subIn K (.ref (He.ga K "BadTable")) (.ref (He.ga K "UnknownWord")) = some false) && (decide (PySem.W.subIn K (.ref (He.ga K "BadTable")) (.ref (He.ga K "SizeMismatch")) = some false) && (decide (PySem.W.subIn K (.ref (He.ga K "BadTable")) (.ref (He.ga K "BadCount")) = some false) && (decide (PySem.W.subIn K (.ref (He.ga K "BadTable")) (.ref (He.ga K "BadPerson")) = some false) && (decide (PySem.W.subIn K (.ref (He.ga K "BadTable")) (.ref (He.ga K "BadLetter")) = some false) && (decide (PySem.W.subIn K (.ref (He.ga K "BadTable")) (.ref (He.ga K "UnknownPerson")) = some false) && (decide (PySem.W.subIn K (.ref (He.ga K "BadTable")) (.ref (He.ga K "TooMany")) = some false) && (decide (PySem.W.subIn K (.ref (He.ga K "BadTable")) (.ref (He.ga K "BadPattern")) = some false))))))))))))))))))))
def hdB11 (K : PySem.W.Frag) : Bool := decide (PySem.W.subIn K (.ref (He.ga K "BadTable")) (.ref (He.ga K "SameWord")) = some false) && (decide (PySem.W.subIn K (.ref (He.ga K "BadTable")) (.ref (He.ga K "UnknownClue")) = some false) && (decide (PySem.W.subIn K (.ref (He.ga K "BadTable")) (.ref (He.ga K "BadPlace")) = some false) && (decide (PySem.W.subIn K (.ref (He.ga K "BadTable")) (.ref (He.ga K "TooLong")) = some false) && (decide (PySem.W.subIn K (.ref (He.ga K "BadTable")) (.ref (He.ga K "Melted")) = some false) && (decide (PySem.W.subIn K (.ref (He.ga K "BadTable")) (.ref (He.ga K "NothingToUndo")) = some false) && (decide (PySem.W.subIn K (.ref (He.ga K "BadTable")) (.ref (He.ga K "NothingToRedo")) = some false) && (decide (PySem.W.subIn K (.ref (He.ga K "BadTable")) (.ref (He.ga K "Refused")) = some false) && (decide (PySem.W.subIn K (.ref (He.ga K "BadTable")) (.ref (He.ga K "BadLine")) = some false) && (decide (PySem.W.subIn K (.ref (He.ga K "BadTable")) (.ref (He.ga K "MurmurError")) = some true) && (Hd.ecB K (He.ga K "SizeMismatch") && (He.eqO (PySem.W.findIn K (.ref (He.ga K "SizeMismatch")) "__setattr__") (some (some (.builtin "object.__setattr__"))) && (decide (PySem.W.subIn K (.ref (He.ga K "SizeMismatch")) (.type "BaseException") = some true) && (PySem.W.keepIn K (.ref (He.ga K "SizeMismatch")) && (decide (PySem.W.mroIn K (He.ga K "SizeMismatch") (.ref (He.ga K "SizeMismatch")) = some true) && (decide (PySem.W.subIn K (.ref (He.ga K "SizeMismatch")) (.type "ValueError") = some true) && (He.eqO (PySem.W.ks_superIn K (He.ga K "SizeMismatch") (He.ga K "SizeMismatch") "__init__") (some (some (.builtin "ValueError.__init__"))) && (Hd.fileB K (Hd.codeOf K (He.ma K (He.ga K "SizeMismatch") "__init__")) (PySem.Challenge.rw_murmurline_k07_whole_repeated).prog.main.file && (Hd.cellB K (Hd.cellOf K (He.ma K (He.ga K "SizeMismatch") "__init__")) (He.ga K "SizeMismatch") && (He.eqO (PySem.W.findIn K (.ref (He.ga K "SizeMismatch")) "__init__") (some (some (.ref (He.ma K (He.ga K "SizeMismatch") "__init__")))))))))))))))))))))))
def hdB12 (K : PySem.W.Frag) : Bool := decide (PySem.W.typeIn K (.ref (He.ma K (He.ga K "SizeMismatch") "__init__")) = some (.type "function")) && (He.eqO (PySem.W.findIn K (.ref (He.ga K "SizeMismatch")) "first") (some none) && (He.eqO (PySem.W.findIn K (.ref (He.ga K "SizeMismatch")) "second") (some none) && (He.eqO (PySem.W.findIn K (.ref (He.ga K "SizeMismatch")) "__getattribute__") (some (some (.builtin "BaseException.__getattribute__"))) && (He.eqO (PySem.W.findIn K (.ref (He.ga K "SizeMismatch")) "__getattr__") (some none) && (PySem.W.hasDictIn K (He.ga K "SizeMismatch") && (He.eqO (PySem.W.findIn K (.ref (He.ga K "SizeMismatch")) "__class__") (some (some (.builtin "object.__class__"))) && (decide (PySem.W.mroIn K (He.ga K "SizeMismatch") (.type "object") = some true) && (decide (PySem.W.subIn K (.ref (He.ga K "SizeMismatch")) (.ref (He.ga K "SizeMismatch")) = some true) && (decide (PySem.W.subIn K (.ref (He.ga K "SizeMismatch")) (.ref (He.ga K "BadSize")) = some false) && (decide (PySem.W.subIn K (.ref (He.ga K "SizeMismatch")) (.ref (He.ga K "BadTable")) = some false) && (decide (PySem.W.subIn K (.ref (He.ga K "SizeMismatch")) (.ref (He.ga K "UnknownWord")) = some false) && (decide (PySem.W.subIn K (.ref (He.ga K "SizeMismatch")) (.ref (He.ga K "BadCount")) = some false) && (decide (PySem.W.subIn K (.ref (He.ga K "SizeMismatch")) (.ref (He.ga K "BadPerson")) = some false) && (decide (PySem.W.subIn K (.ref (He.ga K "SizeMismatch")) (.ref (He.ga K "BadLetter")) = some false) && (decide (PySem.W.subIn K (.ref (He.ga K "SizeMismatch")) (.ref (He.ga K "UnknownPerson")) = some false) && (decide (PySem.W.subIn K (.ref (He.ga K "SizeMismatch")) (.ref (He.ga K "TooMany")) = some false) && (decide (PySem.W.subIn K (.ref (He.ga K "SizeMismatch")) (.ref (He.ga K "BadPattern")) = some false) && (decide (PySem.W.subIn K (.ref (He.ga K "SizeMismatch")) (.ref (He.ga K "SameWord")) = some false) && (decide (PySem.W.subIn K (.ref (He.ga K "SizeMismatch")) (.ref (He.ga K "UnknownClue")) = some false))))))))))))))))))))
def hdB13 (K : PySem.W.Frag) : Bool := decide (PySem.W.subIn K (.ref (He.ga K "SizeMismatch")) (.ref (He.ga K "BadPlace")) = some false) && (decide (PySem.W.subIn K (.ref (He.ga K "SizeMismatch")) (.ref (He.ga K "TooLong")) = some false) && (decide (PySem.W.subIn K (.ref (He.ga K "SizeMismatch")) (.ref (He.ga K "Melted")) = some false) && (decide (PySem.W.subIn K (.ref (He.ga K "SizeMismatch")) (.ref (He.ga K "NothingToUndo")) = some false) && (decide (PySem.W.subIn K (.ref (He.ga K "SizeMismatch")) (.ref (He.ga K "NothingToRedo")) = some false) && (decide (PySem.W.subIn K (.ref (He.ga K "SizeMismatch")) (.ref (He.ga K "Refused")) = some false) && (decide (PySem.W.subIn K (.ref (He.ga K "SizeMismatch")) (.ref (He.ga K "BadLine")) = some false) && (decide (PySem.W.subIn K (.ref (He.ga K "SizeMismatch")) (.ref (He.ga K "MurmurError")) = some true) && (Hd.ecB K (He.ga K "BadCount") && (He.eqO (PySem.W.findIn K (.ref (He.ga K "BadCount")) "__setattr__") (some (some (.builtin "object.__setattr__"))) && (decide (PySem.W.subIn K (.ref (He.ga K "BadCount")) (.type "BaseException") = some true) && (PySem.W.keepIn K (.ref (He.ga K "BadCount")) && (decide (PySem.W.mroIn K (He.ga K "BadCount") (.ref (He.ga K "BadCount")) = some true) && (decide (PySem.W.subIn K (.ref (He.ga K "BadCount")) (.type "ValueError") = some true) && (He.eqO (PySem.W.ks_superIn K (He.ga K "BadCount") (He.ga K "BadCount") "__init__") (some (some (.builtin "ValueError.__init__"))) && (Hd.fileB K (Hd.codeOf K (He.ma K (He.ga K "BadCount") "__init__")) (PySem.Challenge.rw_murmurline_k07_whole_repeated).prog.main.file && (Hd.cellB K (Hd.cellOf K (He.ma K (He.ga K "BadCount") "__init__")) (He.ga K "BadCount") && (He.eqO (PySem.W.findIn K (.ref (He.ga K "BadCount")) "__init__") (some (some (.ref (He.ma K (He.ga K "BadCount") "__init__")))) && (decide (PySem.W.typeIn K (.ref (He.ma K (He.ga K "BadCount") "__init__")) = some (.type "function")) && (He.eqO (PySem.W.findIn K (.ref (He.ga K "BadCount")) "count") (some none))))))))))))))))))))
def hdB14 (K : PySem.W.Frag) : Bool := He.eqO (PySem.W.findIn K (.ref (He.ga K "BadCount")) "__getattribute__") (some (some (.builtin "BaseException.__getattribute__"))) && (He.eqO (PySem.W.findIn K (.ref (He.ga K "BadCount")) "__getattr__") (some none) && (PySem.W.hasDictIn K (He.ga K "BadCount") && (He.eqO (PySem.W.findIn K (.ref (He.ga K "BadCount")) "__class__") (some (some (.builtin "object.__class__"))) && (decide (PySem.W.mroIn K (He.ga K "BadCount") (.type "object") = some true) && (decide (PySem.W.subIn K (.ref (He.ga K "BadCount")) (.ref (He.ga K "BadCount")) = some true) && (decide (PySem.W.subIn K (.ref (He.ga K "BadCount")) (.ref (He.ga K "BadSize")) = some false) && (decide (PySem.W.subIn K (.ref (He.ga K "BadCount")) (.ref (He.ga K "BadTable")) = some false) && (decide (PySem.W.subIn K (.ref (He.ga K "BadCount")) (.ref (He.ga K "UnknownWord")) = some false) && (decide (PySem.W.subIn K (.ref (He.ga K "BadCount")) (.ref (He.ga K "SizeMismatch")) = some false) && (decide (PySem.W.subIn K (.ref (He.ga K "BadCount")) (.ref (He.ga K "BadPerson")) = some false) && (decide (PySem.W.subIn K (.ref (He.ga K "BadCount")) (.ref (He.ga K "BadLetter")) = some false) && (decide (PySem.W.subIn K (.ref (He.ga K "BadCount")) (.ref (He.ga K "UnknownPerson")) = some false) && (decide (PySem.W.subIn K (.ref (He.ga K "BadCount")) (.ref (He.ga K "TooMany")) = some false) && (decide (PySem.W.subIn K (.ref (He.ga K "BadCount")) (.ref (He.ga K "BadPattern")) = some false) && (decide (PySem.W.subIn K (.ref (He.ga K "BadCount")) (.ref (He.ga K "SameWord")) = some false) && (decide (PySem.W.subIn K (.ref (He.ga K "BadCount")) (.ref (He.ga K "UnknownClue")) = some false) && (decide (PySem.W.subIn K (.ref (He.ga K "BadCount")) (.ref (He.ga K "BadPlace")) = some false) && (decide (PySem.W.subIn K (.ref (He.ga K "BadCount")) (.ref (He.ga K "TooLong")) = some false) && (decide (PySem.W.subIn K (.ref (He.ga K "BadCount")) (.ref (He.ga K "Melted")) = some false))))))))))))))))))))
def hdB15 (K : PySem.W.Frag) : Bool := decide (PySem.W.subIn K (.ref (He.ga K "BadCount")) (.ref (He.ga K "NothingToUndo")) = some false) && (decide (PySem.W.subIn K (.ref (He.ga K "BadCount")) (.ref (He.ga K "NothingToRedo")) = some false) && (decide (PySem.W.subIn K (.ref (He.ga K "BadCount")) (.ref (He.ga K "Refused")) = some false) && (decide (PySem.W.subIn K (.ref (He.ga K "BadCount")) (.ref (He.ga K "BadLine")) = some false) && (decide (PySem.W.subIn K (.ref (He.ga K "BadCount")) (.ref (He.ga K "MurmurError")) = some true) && (PySem.W.keepIn K (.ref (He.ga K "_law_single")) && (He.eqO (PySem.W.nsIn K mainGlobals "_law_single") (some (some (.ref (He.ga K "_law_single"))))))))))
def hdB (K : PySem.W.Frag) : Bool := hdB0 K && (hdB1 K && (hdB2 K && (hdB3 K && (hdB4 K && (hdB5 K && (hdB6 K && (hdB7 K && (hdB8 K && (hdB9 K && (hdB10 K && (hdB11 K && (hdB12 K && (hdB13 K && (hdB14 K && (hdB15 K)))))))))))))))
def hdF0 : Hd.FnX := ⟨fun K => (He.ga K "_law_box"), "_law_box", "_law_box", defArgs s__law_box, defBody s__law_box, defScope s__law_box, false, []⟩
def hdF1 : Hd.FnX := ⟨fun K => (He.ga K "_law_take"), "_law_take", "_law_take", defArgs s__law_take, defBody s__law_take, defScope s__law_take, false, []⟩
def hdF2 : Hd.FnX := ⟨fun K => (He.ga K "_law_words"), "_law_words", "_law_words", defArgs s__law_words, defBody s__law_words, defScope s__law_words, false, []⟩
def hdF3 : Hd.FnX := ⟨fun K => (He.ga K "_law_rows"), "_law_rows", "_law_rows", defArgs s__law_rows, defBody s__law_rows, defScope s__law_rows, false, []⟩
def hdF4 : Hd.FnX := ⟨fun K => (He.ga K "is_size"), "is_size", "is_size", defArgs s_is_size, defBody s_is_size, defScope s_is_size, false, []⟩
def hdF5 : Hd.FnX := ⟨fun K => (He.ga K "check_size"), "check_size", "check_size", defArgs s_check_size, defBody s_check_size, defScope s_check_size, false, []⟩
def hdF6 : Hd.FnX := ⟨fun K => (He.ga K "is_word"), "is_word", "is_word", defArgs s_is_word, defBody s_is_word, defScope s_is_word, false, []⟩
def hdF7 : Hd.FnX := ⟨fun K => (He.ga K "all_words"), "all_words", "all_words", defArgs s_all_words, defBody s_all_words, defScope s_all_words, false, []⟩
def hdF8 : Hd.FnX := ⟨fun K => (He.ga K "ascending"), "ascending", "ascending", defArgs s_ascending, defBody s_ascending, defScope s_ascending, false, []⟩
def hdF9 : Hd.FnX := ⟨fun K => (He.ma K (He.ga K "Table") "__init__"), "__init__", "Table.__init__", defArgs s_Table___init__, defBody s_Table___init__, defScope s_Table___init__, false, []⟩
def hdF10 : Hd.FnX := ⟨fun K => (He.ga K "_law_is_int"), "_law_is_int", "_law_is_int", defArgs s__law_is_int, defBody s__law_is_int, defScope s__law_is_int, false, []⟩
def hdF11 : Hd.FnX := ⟨fun K => (He.ma K (He.ga K "Table") "rows"), "rows", "Table.rows", defArgs s_Table_rows, defBody s_Table_rows, defScope s_Table_rows, false, []⟩
def hdF12 : Hd.FnX := ⟨fun K => (He.ga K "_law_is_words"), "_law_is_words", "_law_is_words", defArgs s__law_is_words, defBody s__law_is_words, defScope s__law_is_words, false, []⟩
def hdF13 : Hd.FnX := ⟨fun K => (He.ga K "_law_same"), "_law_same", "_law_same", defArgs s__law_same, defBody s__law_same, defScope s__law_same, false, []⟩
def hdF14 : Hd.FnX := ⟨fun K => (Hd.recA K (Hd.cmA K (He.ga K "Table") "identity") "classmethod"), "identity", "Table.identity", defArgs s_Table_identity, defBody s_Table_identity, defScope s_Table_identity, false, []⟩
def hdF15 : Hd.FnX := ⟨fun K => (He.ga K "check_same_size"), "check_same_size", "check_same_size", defArgs s_check_same_size, defBody s_check_same_size, defScope s_check_same_size, false, []⟩
def hdF16 : Hd.FnX := ⟨fun K => (He.ma K (He.ga K "Table") "_out_of_some"), "_out_of_some", "Table._out_of_some", defArgs s_Table__out_of_some, defBody s_Table__out_of_some, defScope s_Table__out_of_some, false, []⟩
def hdF17 : Hd.FnX := ⟨fun K => (He.ma K (He.ga K "Table") "__mul__"), "__mul__", "Table.__mul__", defArgs s_Table___mul__, defBody s_Table___mul__, defScope s_Table___mul__, false, []⟩
def hdF18 : Hd.FnX := ⟨fun K => (He.ma K (He.ga K "Table") "repeated"), "repeated", "Table.repeated", defArgs s_Table_repeated, defBody s_Table_repeated, defScope s_Table_repeated, false, []⟩
def hdF19 : Hd.FnX := ⟨fun K => (He.ga K "_law_same_rows"), "_law_same_rows", "_law_same_rows", defArgs s__law_same_rows, defBody s__law_same_rows, defScope s__law_same_rows, false, []⟩
def hdF20 : Hd.FnX := ⟨fun K => (He.ga K "_law_join"), "_law_join", "_law_join", defArgs s__law_join, defBody s__law_join, defScope s__law_join, false, []⟩
def hdF21 : Hd.FnX := ⟨fun K => (He.ga K "_law_power"), "_law_power", "_law_power", defArgs s__law_power, defBody s__law_power, defScope s__law_power, false, []⟩
def hdF22 : Hd.FnX := ⟨fun K => (He.ga K "_law_count_error"), "_law_count_error", "_law_count_error", defArgs s__law_count_error, defBody s__law_count_error, defScope s__law_count_error, false, []⟩
def hdF23 : Hd.FnX := ⟨fun K => (He.ga K "law"), "law", "law", defArgs s_law_k07, defBody s_law_k07, defScope s_law_k07, false, []⟩
def hdF24 : Hd.FnX := ⟨fun K => (He.ma K (He.ga K "BadSize") "__init__"), "__init__", "BadSize.__init__", defArgs sBadSizeI, defBody sBadSizeI, defScope sBadSizeI, true, []⟩
def hdF25 : Hd.FnX := ⟨fun K => (He.ma K (He.ga K "BadTable") "__init__"), "__init__", "BadTable.__init__", defArgs sBadTableI, defBody sBadTableI, defScope sBadTableI, true, []⟩
def hdF26 : Hd.FnX := ⟨fun K => (He.ma K (He.ga K "SizeMismatch") "__init__"), "__init__", "SizeMismatch.__init__", defArgs sSizeMismatchI, defBody sSizeMismatchI, defScope sSizeMismatchI, true, []⟩
def hdF27 : Hd.FnX := ⟨fun K => (He.ma K (He.ga K "BadCount") "__init__"), "__init__", "BadCount.__init__", defArgs sBadCountI, defBody sBadCountI, defScope sBadCountI, true, []⟩
def hdF28 : Hd.FnX := ⟨fun K => (He.ga K "_law_single"), "_law_single", "_law_single", defArgs s__law_single, defBody s__law_single, defScope s__law_single, false, []⟩
def hdF : List Hd.FnX := [hdF0, hdF1, hdF2, hdF3, hdF4, hdF5, hdF6, hdF7, hdF8, hdF9, hdF10, hdF11, hdF12, hdF13, hdF14, hdF15, hdF16, hdF17, hdF18, hdF19, hdF20, hdF21, hdF22, hdF23, hdF24, hdF25, hdF26, hdF27, hdF28]
abbrev hdR : PySem.W.OpenRow := PySem.W.OpenLaw.row PySem.Challenge.rw_murmurline_k07_whole_repeated
def hdG0 : List PySem.Str := ["_law_box", "_law_take", "_law_words", "_law_rows", "is_size", "check_size", "is_word", "all_words", "ascending", "_law_is_int", "_law_is_words", "_law_same", "check_same_size", "_law_same_rows", "_law_join", "_law_power", "_law_count_error", "law", "_law_single"]
def hdAs (g : Addr → Option Obj) : List Addr := Hd.reach g ["Table", "MurmurError", "BadSize", "BadTable", "UnknownWord", "SizeMismatch", "BadCount", "BadPerson", "BadLetter", "UnknownPerson", "TooMany", "BadPattern", "SameWord", "UnknownClue", "BadPlace", "TooLong", "Melted", "NothingToUndo", "NothingToRedo", "Refused", "BadLine"] (hdG0) [("Table", ["__init__", "rows", "identity", "_out_of_some", "__mul__", "repeated"]), ("BadSize", ["__init__"]), ("BadTable", ["__init__"]), ("SizeMismatch", ["__init__"]), ("BadCount", ["__init__"])]
abbrev hdH : PySem.W.Hook := Hd.hookB hdAs hdB hdF
def hdO (s : PySem.W.SharedT) : Hd.AlB := Hd.obsBG hdAs hdB hdF (HandSHeadRun.getT s)
theorem hdO_eq (s : PySem.W.SharedT) : hdO s = hdH.obs s.abs := Hd.obsBG_eq (HandSHeadRun.getT_eq s)
def hdN0 : List PySem.Str := ["_wall", "MurmurError", "BadSize", "BadTable", "UnknownWord", "SizeMismatch", "BadCount", "BadPerson", "BadLetter", "UnknownPerson", "TooMany", "BadPattern", "SameWord", "UnknownClue", "BadPlace", "TooLong", "Melted", "NothingToUndo", "NothingToRedo", "Refused", "BadLine", "is_size", "check_size", "check_same_size", "is_word", "all_words", "check_word", "check_words", "ascending", "Table"]
def hdN1 : List PySem.Str := ["_law_single", "_law_same_rows", "_law_join", "_law_box", "_law_take", "_law_words", "_law_rows", "_law_is_int", "_law_is_words", "_law_same", "_law_count_error", "_law_power"]
def hdN : List PySem.Str := hdN0 ++ hdN1
open HandSHeadRun PySem.W in
set_option maxHeartbeats 0 in
theorem hd_r1 (w : World) (os : OsState) : (HandSHeadRun.endF (HandSHeadRun.stepQ (HandSHeadRun.denQ HandSHeadRun.tabQ) (OpenLaw.row PySem.Challenge.rw_murmurline_k07_whole_repeated).prog w) 12000 (OpenLaw.row PySem.Challenge.rw_murmurline_k07_whole_repeated).prog w os).map (fun s => (looksF (OpenLaw.row PySem.Challenge.rw_murmurline_k07_whole_repeated).prog (boot_heap w.params) s.abs, seenQ (view (OpenLaw.row PySem.Challenge.rw_murmurline_k07_whole_repeated).prog [45]) hdN (importedModules (OpenLaw.row PySem.Challenge.rw_murmurline_k07_whole_repeated).prog.main.body) (fun s => xlAt (view (OpenLaw.row PySem.Challenge.rw_murmurline_k07_whole_repeated).prog [45]) [] s && recOk (OpenLaw.row PySem.Challenge.rw_murmurline_k07_whole_repeated).toRowW.records s) s.abs)) = some (true, openGood (view (OpenLaw.row PySem.Challenge.rw_murmurline_k07_whole_repeated).prog [45]) hdN) := by
  kernel_rfl
open HandSHeadRun PySem.W in
set_option maxHeartbeats 0 in
theorem hd_r2 (w : World) (os : OsState) : (HandSHeadRun.endF (HandSHeadRun.stepQ (HandSHeadRun.denQ HandSHeadRun.tabQ) (OpenLaw.row PySem.Challenge.rw_murmurline_k07_whole_repeated).prog w) 12000 (OpenLaw.row PySem.Challenge.rw_murmurline_k07_whole_repeated).prog w os).map (fun s => (hdO s).1) = some true := by
  kernel_rfl
open HandSHeadRun PySem.W in
set_option maxHeartbeats 0 in
theorem hd_r3 (w : World) (os : OsState) : (HandSHeadRun.endF (HandSHeadRun.stepQ (HandSHeadRun.denQ HandSHeadRun.tabQ) (OpenLaw.row PySem.Challenge.rw_murmurline_k07_whole_repeated).prog w) 12000 (OpenLaw.row PySem.Challenge.rw_murmurline_k07_whole_repeated).prog w os).map (fun s => (hdO s).2) = some (hdF.map Hd.FnX.val) := by
  kernel_rfl
theorem hd_run (w : World) : HandSHeadRun.RunEq hdR (PySem.W.view hdR.prog [45]) hdH hdO 12000 hdN w := by
  intro os
  exact Hd.map3 (hd_r1 w os) (hd_r2 w os) (hd_r3 w os)
end Dg
namespace Dl
open PySem PySem.Spec L2

/-! ## data as trees -/
inductive A where
  | non | bl (b : Bool) | int (i : Int) | str (s : Str)
  | lst (xs : List A) | tup (xs : List A)
  | dK (ks : List Key) (xs : List A) | dT (ks : List (List Key)) (xs : List A)
  | ins (c : Nat) (ns : List Str) (xs : List A)
  | kls (c : Nat)
  deriving Inhabited
/-- a flat thing that one name owns, or a tree that never changes -/
inductive Fl where
  | fz (a : A) | lst (xs : List A) | dK (ks : List Key) (xs : List A) | dT (ks : List (List Key)) (xs : List A)
  deriving Inhabited
inductive O where
  | un | fl (f : Fl) | ins (c : Nat) (ns : List Str) (fs : List Fl)
  deriving Inhabited
abbrev Env := List O
abbrev A.sc : A → Option V
  | .non => some .non | .bl b => some (.bl b) | .int i => some (.int i) | .str s => some (.str s) | _ => none
def Fl.frz : Fl → A
  | .fz a => a | .lst xs => .lst xs | .dK ks xs => .dK ks xs | .dT ks xs => .dT ks xs
def O.vw : O → Option A
  | .un => none | .fl f => some f.frz | .ins c ns fs => some (.ins c ns (fs.map Fl.frz))

/-! ## how a tree stands in a heap -/
section
variable (cl : Nat → Addr)
mutual
def Rp (F : Hp) : A → V → Prop
  | .non, v => v = .non
  | .bl b, v => v = .bl b
  | .int i, v => v = .int i
  | .str s, v => v = .str s
  | .lst xs, v => ∃ p vs, v = .ref p ∧ F p = some (.lst vs) ∧ RpL F xs vs
  | .tup xs, v => ∃ p vs, v = .ref p ∧ F p = some (.tup vs) ∧ RpL F xs vs
  | .dK ks xs, v => ∃ p vs, v = .ref p ∧ Rd F p (.dK (ks.zip vs)) ∧ ks.length = xs.length ∧ RpL F xs vs
  | .dT ks xs, v => ∃ p vs, v = .ref p ∧ Rd F p (.dT (ks.zip vs)) ∧ ks.length = xs.length ∧ RpL F xs vs
  | .ins c ns xs, v => ∃ p dx vs, v = .ref p ∧ F p = some (.ins (cl c) dx (ns.zip vs)) ∧ F dx = some (.own p) ∧ ns.length = xs.length ∧ RpL F xs vs
  | .kls c, v => v = .ref (cl c)
def RpL (F : Hp) : List A → List V → Prop
  | [], vs => vs = []
  | x :: xs, vs => ∃ v r, vs = v :: r ∧ Rp F x v ∧ RpL F xs r
end
end
section
variable {cl : Nat → Addr} {F F' H H' : Hp}
theorem Rd.same {p : Addr} {u : HO} (s : Same F F') (h : Rd F p u) : Rd F' p u := h.elim (fun e => .inl (s _ _ e)) fun ⟨o, e⟩ => .inr ⟨o, s _ _ e⟩
mutual
theorem Rp.same (s : Same F F') : ∀ {a : A} {v : V}, Rp cl F a v → Rp cl F' a v
  | .non, _, h => h
  | .bl _, _, h => h
  | .int _, _, h => h
  | .str _, _, h => h
  | .lst _, _, h => let ⟨p, vs, e, q, r⟩ := h; ⟨p, vs, e, s _ _ q, RpL.same s r⟩
  | .tup _, _, h => let ⟨p, vs, e, q, r⟩ := h; ⟨p, vs, e, s _ _ q, RpL.same s r⟩
  | .dK _ _, _, h => let ⟨p, vs, e, q, z, r⟩ := h; ⟨p, vs, e, Rd.same s q, z, RpL.same s r⟩
  | .dT _ _, _, h => let ⟨p, vs, e, q, z, r⟩ := h; ⟨p, vs, e, Rd.same s q, z, RpL.same s r⟩
  | .ins _ _ _, _, h => let ⟨p, dx, vs, e, q, d, z, r⟩ := h; ⟨p, dx, vs, e, s _ _ q, s _ _ d, z, RpL.same s r⟩
  | .kls _, _, h => h
theorem RpL.same (s : Same F F') : ∀ {xs : List A} {vs : List V}, RpL cl F xs vs → RpL cl F' xs vs
  | [], _, h => h
  | _ :: _, _, h => let ⟨v, r, e, q, z⟩ := h; ⟨v, r, e, Rp.same s q, RpL.same s z⟩
end
theorem RpL.length : ∀ {xs : List A} {vs : List V}, RpL cl F xs vs → vs.length = xs.length
  | [], _, h => by cases h; rfl
  | _ :: _, _, h => by obtain ⟨v, r, rfl, _, z⟩ := h; simp [RpL.length z]
theorem RpL.at : ∀ {xs : List A} {vs : List V} {i : Nat} {a : A}, RpL cl F xs vs → xs[i]? = some a → ∃ v, vs[i]? = some v ∧ Rp cl F a v
  | [], _, _, _, _, e => by simp at e
  | _ :: _, _, 0, _, h, e => by obtain ⟨v, r, rfl, q, z⟩ := h; simp at e; subst e; exact ⟨v, rfl, q⟩
  | _ :: _, _, i + 1, _, h, e => by
    obtain ⟨v, r, rfl, q, z⟩ := h
    obtain ⟨u, hu, hq⟩ := RpL.at z (by simpa using e)
    exact ⟨u, by simpa using hu, hq⟩
theorem RpL.at' : ∀ {xs : List A} {vs : List V} {i : Nat} {v : V}, RpL cl F xs vs → vs[i]? = some v → ∃ a, xs[i]? = some a ∧ Rp cl F a v
  | [], _, _, _, h, e => by cases h; simp at e
  | _ :: _, _, 0, _, h, e => by obtain ⟨v, r, rfl, q, z⟩ := h; simp at e; subst e; exact ⟨_, rfl, q⟩
  | _ :: _, _, i + 1, _, h, e => by
    obtain ⟨v, r, rfl, q, z⟩ := h
    obtain ⟨u, hu, hq⟩ := RpL.at' z (by simpa using e)
    exact ⟨u, by simpa using hu, hq⟩
theorem RpL.app : ∀ {xs ys : List A} {vs us : List V}, RpL cl F xs vs → RpL cl F ys us → RpL cl F (xs ++ ys) (vs ++ us)
  | [], _, _, _, h, g => by cases h; exact g
  | _ :: _, _, _, _, h, g => by obtain ⟨v, r, rfl, q, z⟩ := h; exact ⟨v, _, rfl, q, RpL.app z g⟩
theorem RpL.one {a : A} {v : V} (h : Rp cl F a v) : RpL cl F [a] [v] := ⟨v, [], rfl, h, rfl⟩
theorem RpL.take : ∀ {xs : List A} {vs : List V} (n : Nat), RpL cl F xs vs → RpL cl F (xs.take n) (vs.take n)
  | _, _, 0, _ => by simp [RpL]
  | [], _, _ + 1, h => by cases h; exact rfl
  | _ :: _, _, n + 1, h => by obtain ⟨v, r, rfl, q, z⟩ := h; exact ⟨v, _, rfl, q, RpL.take n z⟩
theorem RpL.drop : ∀ {xs : List A} {vs : List V} (n : Nat), RpL cl F xs vs → RpL cl F (xs.drop n) (vs.drop n)
  | _, _, 0, h => h
  | [], _, _ + 1, h => by cases h; exact rfl
  | _ :: _, _, n + 1, h => by obtain ⟨v, r, rfl, q, z⟩ := h; exact RpL.drop n z
theorem RpL.set {a : A} {v : V} (q : Rp cl F a v) : ∀ {xs : List A} {vs : List V} (i : Nat), RpL cl F xs vs → RpL cl F (xs.set i a) (vs.set i v)
  | [], _, _, h => by cases h; exact rfl
  | _ :: _, _, 0, h => by obtain ⟨v, r, rfl, _, z⟩ := h; exact ⟨_, _, rfl, q, z⟩
  | _ :: _, _, i + 1, h => by obtain ⟨v, r, rfl, q', z⟩ := h; exact ⟨v, _, rfl, q', RpL.set q i z⟩
theorem Rp.sc {a : A} {v : V} (e : a.sc = some v) {u : V} (h : Rp cl F a u) : u = v := by
  cases a <;> simp [A.sc] at e <;> subst e <;> exact h
theorem Rp.of_sc {a : A} {v : V} (e : a.sc = some v) : Rp cl F a v := by
  cases a <;> simp [A.sc] at e <;> subst e <;> exact rfl
end

/-! ## how owned things stand -/
section
variable (cl : Nat → Addr)
def FlR (F H : Hp) (S : Addr → Prop) : Fl → V → Prop
  | .fz a, v => Rp cl F a v
  | .lst xs, v => ∃ p vs, v = .ref p ∧ S p ∧ H p = some (.lst vs) ∧ RpL cl F xs vs
  | .dK ks xs, v => ∃ p vs, v = .ref p ∧ S p ∧ H p = some (.dK (ks.zip vs)) ∧ ks.length = xs.length ∧ RpL cl F xs vs
  | .dT ks xs, v => ∃ p vs, v = .ref p ∧ S p ∧ H p = some (.dT (ks.zip vs)) ∧ ks.length = xs.length ∧ RpL cl F xs vs
def OR (F H : Hp) (S : Addr → Prop) : O → V → Prop
  | .un, _ => True
  | .fl f, v => FlR cl F H S f v
  | .ins c ns fs, v => ∃ (p dx : Addr) (vs : List V) (T : Nat → Addr → Prop), v = .ref p ∧ S p ∧ S dx ∧ H p = some (.ins (cl c) dx (ns.zip vs)) ∧ H dx = some (.own p) ∧ ns.length = fs.length ∧ vs.length = fs.length ∧
      (∀ j f u, fs[j]? = some f → vs[j]? = some u → FlR cl F H (T j) f u) ∧ (∀ j q, T j q → S q ∧ q ≠ p ∧ q ≠ dx) ∧ ∀ j k q, T j q → T k q → j = k
end
section
variable {cl : Nat → Addr} {F F' H H' : Hp} {S S' : Addr → Prop}
theorem FlR.go (sF : Same F F') (k : ∀ p o, S p → H p = some o → H' p = some o) : ∀ {f : Fl} {v : V}, FlR cl F H S f v → FlR cl F' H' S f v
  | .fz _, _, h => Rp.same sF h
  | .lst _, _, h => let ⟨p, vs, e, s, q, r⟩ := h; ⟨p, vs, e, s, k _ _ s q, RpL.same sF r⟩
  | .dK _ _, _, h => let ⟨p, vs, e, s, q, z, r⟩ := h; ⟨p, vs, e, s, k _ _ s q, z, RpL.same sF r⟩
  | .dT _ _, _, h => let ⟨p, vs, e, s, q, z, r⟩ := h; ⟨p, vs, e, s, k _ _ s q, z, RpL.same sF r⟩
theorem FlR.sub (k : ∀ p, S p → S' p) : ∀ {f : Fl} {v : V}, FlR cl F H S f v → FlR cl F H S' f v
  | .fz _, _, h => h
  | .lst _, _, h => let ⟨p, vs, e, s, q, r⟩ := h; ⟨p, vs, e, k _ s, q, r⟩
  | .dK _ _, _, h => let ⟨p, vs, e, s, q, z, r⟩ := h; ⟨p, vs, e, k _ s, q, z, r⟩
  | .dT _ _, _, h => let ⟨p, vs, e, s, q, z, r⟩ := h; ⟨p, vs, e, k _ s, q, z, r⟩
theorem OR.go (sF : Same F F') (k : ∀ p o, S p → H p = some o → H' p = some o) : ∀ {o : O} {v : V}, OR cl F H S o v → OR cl F' H' S o v
  | .un, _, _ => trivial
  | .fl _, _, h => FlR.go sF k h
  | .ins _ _ _, _, h =>
    let ⟨p, dx, vs, T, e, s, sd, q, d, z, z', r, a, b⟩ := h
    ⟨p, dx, vs, T, e, s, sd, k _ _ s q, k _ _ sd d, z, z', fun j f u hf hu => FlR.go sF (fun _ _ t => k _ _ (a j _ t).1) (r j f u hf hu), a, b⟩
theorem OR.sub (k : ∀ p, S p → S' p) : ∀ {o : O} {v : V}, OR cl F H S o v → OR cl F H S' o v
  | .un, _, _ => trivial
  | .fl _, _, h => FlR.sub k h
  | .ins _ _ _, _, h =>
    let ⟨p, dx, vs, T, e, s, sd, q, d, z, z', r, a, b⟩ := h
    ⟨p, dx, vs, T, e, k _ s, k _ sd, q, d, z, z', r, fun j q t => ⟨k _ (a j q t).1, (a j q t).2⟩, b⟩

/-! ## the state of a def -/
def OS (cl : Nat → Addr) (F H : Hp) (S : Addr → Prop) (o : O) (s : Option (Option V)) : Prop := o = .un ∨ ∃ v, s = some (some v) ∧ OR cl F H S o v
def HOtup : HO → Bool
  | .tup _ => true
  | _ => false
/-- a cell that is no tuple -/
def Nt (H : Hp) (p : Addr) : Prop := ∃ o, H p = some o ∧ HOtup o = false
theorem Nt.ne {H : Hp} {p : Addr} (h : Nt H p) : H p ≠ none := fun e => by
  obtain ⟨o, a, _⟩ := h
  rw [e] at a; cases a
theorem Nt.new {H : Hp} {p : Addr} {o : HO} (h : HOtup o = false) : Nt (upd H p o) p := ⟨o, upd_same, h⟩
theorem Nt.keep {H H' : Hp} {p : Addr} (h : Nt H p) (e : H' p = H p) : Nt H' p := by
  obtain ⟨o, a, b⟩ := h
  exact ⟨o, e.trans a, b⟩
theorem Nt.no {H : Hp} {p : Addr} {vs : List V} (h : Nt H p) (e : H p = some (.tup vs)) : False := by
  obtain ⟨o, a, b⟩ := h
  rw [e] at a
  cases a
  cases b
structure Rs (cl : Nat → Addr) (kp : List Nat) (τ : St) (F H : Hp) (fp : Nat → Addr → Prop) (env : Env) (σ : St) : Prop where
  len : env.length = σ.length
  slot : ∀ i o, env[i]? = some o → OS cl F H (fp i) o σ[i]?
  dis : ∀ i j p, fp i p → fp j p → i = j
  sep : ∀ i p, fp i p → F p = none
  dom : ∀ i p, fp i p → Nt H p
  le : Same F H
  pro : ∀ i ∈ kp, σ[i]? = τ[i]?
  tl : σ.length = τ.length
abbrev U (fp : Nat → Addr → Prop) : Addr → Prop := fun p => ∃ i, fp i p
structure Go (F H : Hp) (U : Addr → Prop) (F' H' : Hp) (U' : Addr → Prop) : Prop where
  sF : Same F F'
  keep : ∀ p o, ¬ U p → H p = some o → H' p = some o
  new : ∀ p, F' p ≠ none → F p = none → H p = none ∨ U p ∨ ∃ vs, H p = some (.tup vs)
  fpn : ∀ p, U' p → U p ∨ H p = none
  dom : ∀ p, H p ≠ none → H' p ≠ none
  ntd : ∀ p, Nt H p → Nt H' p
theorem Go.refl {U : Addr → Prop} : Go F H U F H U := ⟨Same.refl F, fun _ _ _ h => h, fun _ h e => (h e).elim, fun _ h => .inl h, fun _ h => h, fun _ h => h⟩
theorem Go.trans {F1 H1 F2 H2 : Hp} {U U1 U2 : Addr → Prop} (a : Go F H U F1 H1 U1) (b : Go F1 H1 U1 F2 H2 U2) : Go F H U F2 H2 U2 := by
  have key : ∀ p, U1 p → ¬ U p → H p = none := fun p h n => (a.fpn p h).elim (fun z => (n z).elim) id
  have back : ∀ p, H1 p = none → H p = none := fun p z => by
    cases hp : H p with
    | none => rfl
    | some o => exact absurd z (a.dom p (by rw [hp]; exact fun q => nomatch q))
  refine ⟨a.sF.trans b.sF, fun p o n e => b.keep p o (fun z => ?_) (a.keep p o n e), fun p h e => ?_, fun p h => ?_, fun p h => b.dom p (a.dom p h), fun p h => b.ntd p (a.ntd p h)⟩
  · rw [key p z n] at e; cases e
  · by_cases f1 : F1 p = none
    · rcases b.new p h f1 with z | z | ⟨vs, z⟩
      · exact .inl (back p z)
      · exact (a.fpn p z).elim (fun z => .inr (.inl z)) .inl
      · by_cases u : U p
        · exact .inr (.inl u)
        · cases hp : H p with
          | none => exact .inl rfl
          | some o =>
            have := a.keep p o u hp
            rw [z] at this
            cases this
            exact .inr (.inr ⟨vs, rfl⟩)
    · exact a.new p f1 e
  · rcases b.fpn p h with z | z
    · exact a.fpn p z
    · exact .inr (back p z)
theorem Go.mono {U U' V' : Addr → Prop} (a : Go F H U F' H' U') (h : ∀ p, V' p → U' p) : Go F H U F' H' V' := ⟨a.sF, a.keep, a.new, fun p z => a.fpn p (h p z), a.dom, a.ntd⟩
theorem Go.wide {U U' V' : Addr → Prop} (a : Go F H U F' H' U') (h : ∀ p, U p → V' p) : Go F H V' F' H' U' := ⟨a.sF, fun p o n => a.keep p o fun z => n (h p z), fun p q e => (a.new p q e).imp id (Or.imp (h p) id), fun p z => (a.fpn p z).imp (h p) id, a.dom, a.ntd⟩
end
end Dl
namespace Dl
open PySem PySem.Spec L2

/-! ## values of expressions -/
inductive R where
  | fz (a : A) | pl (i : Nat) | pf (i : Nat) (f : Str) | ow (o : O)
  deriving Inhabited
def fld (ns : List Str) (fs : List Fl) (f : Str) : Option Fl := (ns.zip fs).lookup f
def O.fvw (f : Str) : O → Option A
  | .ins _ ns fs => (fld ns fs f).map Fl.frz
  | _ => none
def R.vw (env : Env) : R → Option A
  | .fz a => some a
  | .pl i => env[i]?.bind O.vw
  | .pf i f => env[i]?.bind (O.fvw f)
  | .ow o => o.vw
def R.tmp : R → R
  | .ow o => match o.vw with
    | some a => .fz a
    | none => .ow o
  | r => r
abbrev G := Env → Option (R × Env)
section
variable (cl : Nat → Addr)
/-- the root in H, what it holds in F -/
def Rv (F H : Hp) : A → V → Prop
  | .lst xs, v => ∃ p vs, v = .ref p ∧ H p = some (.lst vs) ∧ RpL cl F xs vs
  | .tup xs, v => ∃ p vs, v = .ref p ∧ F p = some (.tup vs) ∧ RpL cl F xs vs
  | .dK ks xs, v => ∃ p vs, v = .ref p ∧ Rd H p (.dK (ks.zip vs)) ∧ ks.length = xs.length ∧ RpL cl F xs vs
  | .dT ks xs, v => ∃ p vs, v = .ref p ∧ Rd H p (.dT (ks.zip vs)) ∧ ks.length = xs.length ∧ RpL cl F xs vs
  | a, v => Rp cl H a v
def RR (F H : Hp) (fp : Nat → Addr → Prop) (σ : L2.St) : R → V → (Addr → Prop) → Prop
  | .fz a, v, _ => Rp cl F a v
  | .pl i, v, _ => σ[i]? = some (some v)
  | .pf i f, v, _ => ∃ p c dx vs, σ[i]? = some (some (.ref p)) ∧ H p = some (.ins c dx vs) ∧ vs.lookup f = some v
  | .ow o, v, S => OR cl F H S o v ∧ ∀ p, S p → F p = none ∧ Nt H p ∧ ¬ U fp p
def SE (kp : List Nat) (pu : Bool) (t : TE) (g : G) : Prop :=
  ∀ ⦃τ : L2.St⦄ ⦃F H : Hp⦄ ⦃fp : Nat → Addr → Prop⦄ ⦃env : Env⦄ ⦃σ : L2.St⦄ ⦃Q : VK⦄ ⦃r : R⦄ ⦃env' : Env⦄, Rs cl kp τ F H fp env σ → g env = some (r, env') →
    (∀ F' H' fp' S v, Rs cl kp τ F' H' fp' env' σ → Go F H (U fp) F' H' (fun p => U fp' p ∨ S p) → RR cl F' H' fp' σ r v S → (pu = true → env' = env ∧ fp' = fp ∧ Same H H') → Q v H') → t σ H Q
end
section
variable {cl : Nat → Addr} {kp : List Nat} {τ σ : L2.St} {F F' H H' : Hp} {fp : Nat → Addr → Prop} {env : Env} {S : Addr → Prop}
theorem Rp.rv (s : Same F H) {a : A} {v : V} (h : Rp cl F a v) : Rv cl F H a v := by
  cases a with
  | lst xs => obtain ⟨p, vs, e, q, r⟩ := h; exact ⟨p, vs, e, s _ _ q, r⟩
  | tup xs => exact h
  | dK ks xs => obtain ⟨p, vs, e, q, z, r⟩ := h; exact ⟨p, vs, e, Rd.same s q, z, r⟩
  | dT ks xs => obtain ⟨p, vs, e, q, z, r⟩ := h; exact ⟨p, vs, e, Rd.same s q, z, r⟩
  | ins c ns xs => exact Rp.same s h
  | _ => exact h
theorem Rv.rp (s : Same F H) {a : A} {v : V} (h : Rv cl F H a v) : Rp cl H a v := by
  cases a with
  | lst xs => obtain ⟨p, vs, e, q, r⟩ := h; exact ⟨p, vs, e, q, RpL.same s r⟩
  | tup xs => obtain ⟨p, vs, e, q, r⟩ := h; exact ⟨p, vs, e, s _ _ q, RpL.same s r⟩
  | dK ks xs => obtain ⟨p, vs, e, q, z, r⟩ := h; exact ⟨p, vs, e, q, z, RpL.same s r⟩
  | dT ks xs => obtain ⟨p, vs, e, q, z, r⟩ := h; exact ⟨p, vs, e, q, z, RpL.same s r⟩
  | _ => exact h
theorem FlR.rv (s : Same F H) {f : Fl} {v : V} (h : FlR cl F H S f v) : Rv cl F H f.frz v := by
  cases f with
  | fz a => exact Rp.rv s h
  | lst xs => obtain ⟨p, vs, e, _, q, r⟩ := h; exact ⟨p, vs, e, q, r⟩
  | dK ks xs => obtain ⟨p, vs, e, _, q, z, r⟩ := h; exact ⟨p, vs, e, .inl q, z, r⟩
  | dT ks xs => obtain ⟨p, vs, e, _, q, z, r⟩ := h; exact ⟨p, vs, e, .inl q, z, r⟩
theorem RpL.of_at : ∀ {xs : List A} {vs : List V}, vs.length = xs.length → (∀ (j : Nat) (a : A) (u : V), xs[j]? = some a → vs[j]? = some u → Rp cl F a u) → RpL cl F xs vs
  | [], [], _, _ => rfl
  | a :: xs, v :: vs, e, h => ⟨v, vs, rfl, h 0 a v rfl rfl, RpL.of_at (by simpa using e) fun j b u hb hu => h (j + 1) b u (by simpa using hb) (by simpa using hu)⟩
theorem OR.rv (s : Same F H) {o : O} {v : V} {a : A} (h : OR cl F H S o v) (e : o.vw = some a) : Rv cl F H a v := by
  cases o with
  | un => cases e
  | fl f => cases e; exact FlR.rv s h
  | ins c ns fs =>
    cases e
    obtain ⟨p, dx, vs, T, e, _, _, q, d, z, z', r, _, _⟩ := h
    refine ⟨p, dx, vs, e, q, d, by simpa using z, RpL.of_at (by simpa using z') fun j b u hb hu => ?_⟩
    rw [List.getElem?_map, Option.map_eq_some_iff] at hb
    obtain ⟨f, hf, rfl⟩ := hb
    exact Rv.rp s (FlR.rv s (r j f u hf hu))
theorem zip_lookup {f : Str} {β : Type} : ∀ {ns : List Str} {vs : List V} {fs : List β} {v : V} {x : β}, (ns.zip vs).lookup f = some v → (ns.zip fs).lookup f = some x → ∃ j : Nat, vs[j]? = some v ∧ fs[j]? = some x
  | [], _, _, _, _, h, _ => by simp at h
  | _ :: _, [], _, _, _, h, _ => by simp at h
  | _ :: _, _ :: _, [], _, _, _, h => by simp at h
  | n :: ns, w :: vs, y :: fs, v, x, h, g => by
    rw [List.zip_cons_cons, List.lookup_cons] at h g
    by_cases e : (f == n) = true
    · rw [e] at h g
      exact ⟨0, h, g⟩
    · have e : (f == n) = false := by simpa using e
      rw [e] at h g
      obtain ⟨j, a, b⟩ := zip_lookup h g
      exact ⟨j + 1, by simpa using a, by simpa using b⟩
theorem Rs.at (I : Rs cl kp τ F H fp env σ) {i : Nat} {o : O} (e : env[i]? = some o) {a : A} (w : o.vw = some a) : ∃ v, σ[i]? = some (some v) ∧ OR cl F H (fp i) o v := by
  rcases I.slot i o e with z | z
  · subst z; cases w
  · exact z
theorem RR.rv (I : Rs cl kp τ F H fp env σ) {r : R} {v : V} {a : A} (h : RR cl F H fp σ r v S) (e : r.vw env = some a) : Rv cl F H a v := by
  cases r with
  | fz b => cases e; exact Rp.rv I.le h
  | pl i =>
    obtain ⟨o, ho, e⟩ := Option.bind_eq_some_iff.mp e
    obtain ⟨u, hu, q⟩ := I.at ho e
    have h : σ[i]? = some (some v) := h
    rw [h] at hu
    cases hu
    exact q.rv I.le e
  | pf i f =>
    obtain ⟨o, ho, e⟩ := Option.bind_eq_some_iff.mp e
    cases o with
    | un => cases e
    | fl x => cases e
    | ins c ns fs =>
      obtain ⟨x, hx, z⟩ := Option.map_eq_some_iff.mp e
      subst z
      obtain ⟨u, hu, q⟩ := I.at ho rfl
      obtain ⟨p, c', dx', vs', hp, hh, hl⟩ := h
      rw [hp] at hu
      cases hu
      obtain ⟨p', dx, vs, T, e, _, _, q, d, z, z', r, _, _⟩ := q
      cases e
      rw [hh] at q
      cases q
      obtain ⟨j, a, b⟩ := zip_lookup hl hx
      exact FlR.rv I.le (r j x v b a)
  | ow o => exact h.1.rv I.le e

/-! ### a heap part that is frozen -/
open Classical in
noncomputable def plus (F H : Hp) (S : Addr → Prop) : Hp := fun p => if S p then H p else F p
theorem plus_in {p : Addr} (h : S p) : plus F H S p = H p := by unfold plus; rw [if_pos h]
theorem plus_out {p : Addr} (h : ¬ S p) : plus F H S p = F p := by unfold plus; rw [if_neg h]
theorem plus_le (s : ∀ p, S p → F p = none) : Same F (plus F H S) := fun p o e => by
  by_cases h : S p
  · rw [s p h] at e; cases e
  · rw [plus_out h]; exact e
theorem le_plus (s : Same F H) : Same (plus F H S) H := fun p o e => by
  by_cases h : S p
  · rw [plus_in h] at e; exact e
  · rw [plus_out h] at e; exact s _ _ e
theorem FlR.plus (s : ∀ p, S p → F p = none) {T : Addr → Prop} (k : ∀ p, T p → S p) {f : Fl} {v : V} (h : FlR cl F H T f v) : Rp cl (Dl.plus F H S) f.frz v := by
  have le := plus_le (H := H) s
  cases f with
  | fz a => exact Rp.same le h
  | lst xs => obtain ⟨p, vs, e, t, q, r⟩ := h; exact ⟨p, vs, e, by rw [plus_in (k _ t)]; exact q, RpL.same le r⟩
  | dK ks xs => obtain ⟨p, vs, e, t, q, z, r⟩ := h; exact ⟨p, vs, e, .inl (by rw [plus_in (k _ t)]; exact q), z, RpL.same le r⟩
  | dT ks xs => obtain ⟨p, vs, e, t, q, z, r⟩ := h; exact ⟨p, vs, e, .inl (by rw [plus_in (k _ t)]; exact q), z, RpL.same le r⟩
theorem OR.plus (s : ∀ p, S p → F p = none) {o : O} {v : V} {a : A} (h : OR cl F H S o v) (e : o.vw = some a) : Rp cl (Dl.plus F H S) a v := by
  cases o with
  | un => cases e
  | fl f => cases e; exact FlR.plus s (fun _ t => t) h
  | ins c ns fs =>
    cases e
    obtain ⟨p, dx, vs, T, e, sp, sd, q, d, z, z', r, a, _⟩ := h
    refine ⟨p, dx, vs, e, by rw [plus_in sp]; exact q, by rw [plus_in sd]; exact d, by simpa using z, RpL.of_at (by simpa using z') fun j b u hb hu => ?_⟩
    rw [List.getElem?_map, Option.map_eq_some_iff] at hb
    obtain ⟨f, hf, rfl⟩ := hb
    exact FlR.plus s (fun q t => (a j q t).1) (r j f u hf hu)
/-- new cells of its own are taken into F -/
theorem Rs.plus (I : Rs cl kp τ F H fp env σ) (n : ∀ p, S p → F p = none ∧ Nt H p ∧ ¬ U fp p) : Rs cl kp τ (plus F H S) H fp env σ := by
  have le := plus_le (H := H) fun p h => (n p h).1
  refine ⟨I.len, fun i o e => (I.slot i o e).imp id fun ⟨v, a, b⟩ => ⟨v, a, OR.go le (fun _ _ _ q => q) b⟩, I.dis, fun i p h => ?_, I.dom, le_plus I.le, I.pro, I.tl⟩
  rw [plus_out fun z => (n p z).2.2 ⟨i, h⟩]
  exact I.sep i p h
theorem Go.plus {U U' : Addr → Prop} {F1 H1 : Hp} (a : Go F H U F1 H1 (fun p => U' p ∨ S p)) (n : ∀ p, S p → F1 p = none) : Go F H U (plus F1 H1 S) H1 U' := by
  refine ⟨a.sF.trans (plus_le n), a.keep, fun p h e => ?_, fun p h => a.fpn p (.inl h), a.dom, a.ntd⟩
  by_cases s : S p
  · exact (a.fpn p (.inr s)).elim (fun z => .inr (.inl z)) .inl
  · rw [plus_out s] at h
    exact a.new p h e
/-! ### new things -/
theorem Rs.laid (I : Rs cl kp τ F H fp env σ) {p : Addr} {o : HO} (n : H p = none) : Rs cl kp τ F (upd H p o) fp env σ := by
  have ne : ∀ q, H q ≠ none → q ≠ p := fun q h e => by rw [e] at h; exact h n
  refine ⟨I.len, fun i x e => (I.slot i x e).imp id fun ⟨v, a, b⟩ => ⟨v, a, OR.go (Same.refl F) (fun q u h e => by rw [upd_ne (ne q (I.dom i q h).ne)]; exact e) b⟩, I.dis, I.sep, fun i q h => (I.dom i q h).keep (upd_ne (ne q (I.dom i q h).ne)), fun q u e => ?_, I.pro, I.tl⟩
  have := I.le _ _ e
  rw [upd_ne (ne q (by rw [this]; exact fun z => nomatch z))]; exact this
theorem Go.laid {U : Addr → Prop} {p : Addr} {o : HO} (n : H p = none) : Go F H U F (upd H p o) (fun q => U q ∨ q = p) := by
  refine ⟨Same.refl F, fun q u _ e => ?_, fun q h e => (h e).elim, fun q h => h.imp id fun e => by rw [e]; exact n, fun q h => ?_, fun q h => h.keep (upd_ne fun z => h.ne (by rw [z]; exact n))⟩
  · rw [upd_ne (fun z => by rw [z, n] at e; cases e)]; exact e
  · by_cases e : q = p
    · rw [e, upd_same]; exact fun z => nomatch z
    · rw [upd_ne e]; exact h
theorem Go.of_same {U : Addr → Prop} (s : Same H H') : Go F H U F H' U := by
  refine ⟨Same.refl F, fun p o _ e => s _ _ e, fun p h e => (h e).elim, fun p h => .inl h, fun p h => ?_, fun p ⟨o, a, b⟩ => ⟨o, s _ _ a, b⟩⟩
  cases e : H p with
  | none => exact (h e).elim
  | some o => rw [s _ _ e]; exact fun z => nomatch z

/-! ### expressions -/
def gV (i : Nat) : G := fun env => match env[i]? with
  | some (.fl (.fz a)) => some (.fz a, env)
  | some .un => none
  | some _ => some (.pl i, env)
  | none => none
theorem se_var {i : Nat} : SE cl kp true (tVar i) (gV i) := by
  intro τ F H fp env σ Q r env' I e k
  unfold gV at e
  split at e
  · rename_i a h
    cases e
    obtain ⟨v, hv, q⟩ := I.at h rfl
    exact ⟨v, hv, k F H fp (fun _ => False) v I (Go.refl.mono fun p z => z.elim id False.elim) q fun _ => ⟨rfl, rfl, Same.refl _⟩⟩
  · cases e
  · rename_i o h1 h2 h
    cases e
    rcases I.slot i o h with z | ⟨v, hv, q⟩
    · subst z; exact (h2 rfl).elim
    · exact ⟨v, hv, k F H fp (fun _ => False) v I (Go.refl.mono fun p z => z.elim id False.elim) hv fun _ => ⟨rfl, rfl, Same.refl _⟩⟩
  · cases e
def gK (a : A) : G := fun env => some (.fz a, env)
theorem se_const {v : V} {a : A} (h : a.sc = some v) : SE cl kp true (tC v) (gK a) := by
  intro τ F H fp env σ Q r env' I e k
  cases e
  exact k F H fp (fun _ => False) v I (Go.refl.mono fun p z => z.elim id False.elim) (Rp.of_sc h) fun _ => ⟨rfl, rfl, Same.refl _⟩
def gT (g : G) : G := fun env => (g env).map fun p => (p.1.tmp, p.2)
theorem SE.tmp {pu : Bool} {t : TE} {g : G} (h : SE cl kp pu t g) : SE cl kp pu t (gT g) := by
  intro τ F H fp env σ Q r env' I e k
  unfold gT at e
  rw [Option.map_eq_some_iff] at e
  obtain ⟨⟨r0, e0⟩, e, z⟩ := e
  cases z
  refine h I e fun F1 H1 fp1 S v I1 go rr pu => ?_
  cases r0 with
  | ow o =>
    show Q v H1
    cases w : o.vw with
    | none =>
      have : (R.ow o).tmp = .ow o := by show (match o.vw with | some a => R.fz a | none => .ow o) = _; rw [w]
      rw [this] at k
      exact k F1 H1 fp1 S v I1 go rr pu
    | some a =>
      have : (R.ow o).tmp = .fz a := by show (match o.vw with | some a => R.fz a | none => .ow o) = _; rw [w]
      rw [this] at k
      have n := fun p z => (rr.2 p z).1
      exact k (plus F1 H1 S) H1 fp1 (fun _ => False) v (I1.plus rr.2) ((go.plus n).mono fun p z => z.elim id False.elim) (OR.plus n rr.1 w) pu
  | fz a => exact k F1 H1 fp1 S v I1 go rr pu
  | pl i => exact k F1 H1 fp1 S v I1 go rr pu
  | pf i f => exact k F1 H1 fp1 S v I1 go rr pu
def R.isPf : R → Bool
  | .pf _ _ => true
  | _ => false
def R.isOw : R → Bool
  | .ow _ => true
  | _ => false
theorem RR.keep {r : R} {v : V} {F1 H1 : Hp} {fp1 : Nat → Addr → Prop} {S1 : Addr → Prop} (h : RR cl F H fp σ r v S) (no : r.isOw = false) (s : Same F F1) (hp : r.isPf = true → Same H H1) : RR cl F1 H1 fp1 σ r v S1 := by
  cases r with
  | fz a => exact Rp.same s h
  | pl i => exact h
  | pf i f => obtain ⟨p, c, dx, vs, a, b, e⟩ := h; exact ⟨p, c, dx, vs, a, hp rfl _ _ b, e⟩
  | ow o => cases no
/-- two operands, what is made of their views -/
def gTwo (pb : Bool) (ga gb : G) : Env → Option (A × A × Env) := fun env =>
  (ga env).bind fun p => (gb p.2).bind fun q => if p.1.tmp.isOw || (p.1.isPf && !pb) then none else (p.1.tmp.vw q.2).bind fun a => (q.1.vw q.2).bind fun b => some (a, b, q.2)
theorem se_two {pa pb : Bool} {ta tb : TE} {ga gb : G} (ha : SE cl kp pa ta ga) (hb : SE cl kp pb tb gb) {a b : A} {env' : Env} {W : V → V → Hp → Prop} (I : Rs cl kp τ F H fp env σ) (e : gTwo pb ga gb env = some (a, b, env'))
    (k : ∀ F' H' fp' x y, Rs cl kp τ F' H' fp' env' σ → Go F H (U fp) F' H' (U fp') → Rv cl F' H' a x → Rv cl F' H' b y → ((pa && pb) = true → env' = env ∧ fp' = fp ∧ Same H H') → W x y H') : ta σ H fun x H1 => tb σ H1 fun y H2 => W x y H2 := by
  unfold gTwo at e
  simp only [Option.bind_eq_some_iff] at e
  obtain ⟨⟨r1, e1⟩, h1, ⟨r2, e2⟩, h2, e⟩ := e
  by_cases c : (r1.tmp.isOw || (r1.isPf && !pb)) = true
  · simp only [if_pos c] at e
    cases e
  simp only [if_neg c, Option.bind_eq_some_iff] at e
  obtain ⟨a', w1, b', w2, z⟩ := e
  cases z
  have c : (r1.tmp.isOw || (r1.isPf && !pb)) = false := by simpa using c
  obtain ⟨c1, c2⟩ := Bool.or_eq_false_iff.mp c
  have g1 : gT ga env = some (r1.tmp, e1) := by unfold gT; rw [h1]; rfl
  refine ha.tmp I g1 fun F1 H1 fp1 S1 x I1 go1 rr1 pu1 => ?_
  refine hb I1 h2 fun F2 H2 fp2 S2 y I2 go2 rr2 pu2 => ?_
  have rr1' : RR cl F2 H2 fp2 σ r1.tmp x S1 := rr1.keep c1 go2.sF fun z => by
    have hpf : r1.isPf = true := by
      cases r1 with
      | ow o =>
        exfalso
        revert z
        show (match o.vw with | some a => R.fz a | none => .ow o).isPf = true → False
        cases o.vw <;> exact fun z => nomatch z
      | pf i f => rfl
      | fz a => cases z
      | pl i => cases z
    have : pb = true := by
      rw [hpf] at c2
      cases pb with
      | true => rfl
      | false => cases c2
    exact (pu2 this).2.2
  have go1' := go1.mono (V' := U fp1) fun p z => .inl z
  have go2' := go2.mono (V' := U fp2) fun p z => .inl z
  refine k F2 H2 fp2 x y I2 (go1'.trans go2') (rr1'.rv I2 w1) (rr2.rv I2 w2) fun z => ?_
  obtain ⟨z1, z2⟩ := (Bool.and_eq_true_iff.mp z)
  obtain ⟨a1, b1, s1⟩ := pu1 z1
  obtain ⟨a2, b2, s2⟩ := pu2 z2
  exact ⟨a2.trans a1, b2.trans b1, s1.trans s2⟩
/-- an operation whose answer is a thing that was there, or no object -/
def OpI (cl : Nat → Addr) (r : R2) (f : A → A → Option A) : Prop := ∀ ⦃F H : Hp⦄ ⦃x y : V⦄ ⦃a b c : A⦄ ⦃Q : VK⦄, Same F H → Rv cl F H a x → Rv cl F H b y → f a b = some c → (∀ v, Rp cl F c v → Q v H) → r x y H Q
def gOp (pb : Bool) (f : A → A → Option A) (ga gb : G) : G := fun env => (gTwo pb ga gb env).bind fun p => (f p.1 p.2.1).map fun c => (.fz c, p.2.2)
theorem se_op {pa pb : Bool} {ta tb : TE} {ga gb : G} {r : R2} {f : A → A → Option A} (hr : OpI cl r f) (ha : SE cl kp pa ta ga) (hb : SE cl kp pb tb gb) : SE cl kp (pa && pb) (tOp r ta tb) (gOp pb f ga gb) := by
  intro τ F H fp env σ Q z env' I e k
  unfold gOp at e
  rw [Option.bind_eq_some_iff] at e
  obtain ⟨⟨a, b, e2⟩, e1, e⟩ := e
  rw [Option.map_eq_some_iff] at e
  obtain ⟨c, hc, e⟩ := e
  cases e
  refine se_two (W := fun x y H2 => r x y H2 Q) ha hb I e1 fun F' H' fp' x y I' go rx ry pu => ?_
  exact hr I'.le rx ry hc fun v rc => k F' H' fp' (fun _ => False) v I' (go.mono fun p z => z.elim id False.elim) rc pu
/-- .. a new list -/
def OpN (cl : Nat → Addr) (r : R2) (f : A → A → Option (List A)) : Prop := ∀ ⦃F H : Hp⦄ ⦃x y : V⦄ ⦃a b : A⦄ ⦃c : List A⦄ ⦃Q : VK⦄, Same F H → Rv cl F H a x → Rv cl F H b y → f a b = some c → (∀ p vs, H p = none → RpL cl F c vs → Q (.ref p) (upd H p (.lst vs))) → r x y H Q
def gOpN (pb : Bool) (f : A → A → Option (List A)) (ga gb : G) : G := fun env => (gTwo pb ga gb env).bind fun p => (f p.1 p.2.1).map fun c => (.ow (.fl (.lst c)), p.2.2)
theorem RR.newL (I : Rs cl kp τ F H fp env σ) {p : Addr} {xs : List A} {vs : List V} (n : H p = none) (r : RpL cl F xs vs) : RR cl F (upd H p (.lst vs)) fp σ (.ow (.fl (.lst xs))) (.ref p) (fun q => q = p) := by
  refine ⟨⟨p, vs, rfl, rfl, upd_same, r⟩, fun q e => ?_⟩
  subst e
  refine ⟨?_, Nt.new rfl, fun ⟨i, h⟩ => (I.dom i q h).ne n⟩
  cases e : F q with
  | none => rfl
  | some o => rw [I.le _ _ e] at n; cases n
theorem same_new {p : Addr} {o : HO} (n : H p = none) : Same H (upd H p o) := fun q u e => by rw [upd_ne (fun z => by rw [z, n] at e; cases e)]; exact e
theorem se_opN {pa pb : Bool} {ta tb : TE} {ga gb : G} {r : R2} {f : A → A → Option (List A)} (hr : OpN cl r f) (ha : SE cl kp pa ta ga) (hb : SE cl kp pb tb gb) : SE cl kp (pa && pb) (tOp r ta tb) (gOpN pb f ga gb) := by
  intro τ F H fp env σ Q z env' I e k
  unfold gOpN at e
  rw [Option.bind_eq_some_iff] at e
  obtain ⟨⟨a, b, e2⟩, e1, e⟩ := e
  rw [Option.map_eq_some_iff] at e
  obtain ⟨c, hc, e⟩ := e
  cases e
  refine se_two (W := fun x y H2 => r x y H2 Q) ha hb I e1 fun F' H' fp' x y I' go rx ry pu => ?_
  refine hr I'.le rx ry hc fun p vs n rc => k F' _ fp' (fun q => q = p) _ (I'.laid n) (go.trans (Go.laid n)) (RR.newL I' n rc) fun z => ?_
  obtain ⟨a, b, s⟩ := pu z
  exact ⟨a, b, s.trans (same_new n)⟩
/-- one operand -/
def UnI (cl : Nat → Addr) (r : V → Hp → VK → Prop) (f : A → Option A) : Prop := ∀ ⦃F H : Hp⦄ ⦃x : V⦄ ⦃a c : A⦄ ⦃Q : VK⦄, Same F H → Rv cl F H a x → f a = some c → (∀ v, Rp cl F c v → Q v H) → r x H Q
def gOne (ga : G) : Env → Option (A × Env) := fun env => (ga env).bind fun p => (p.1.vw p.2).map fun a => (a, p.2)
theorem se_one {pa : Bool} {ta : TE} {ga : G} (ha : SE cl kp pa ta ga) {a : A} {env' : Env} {W : V → Hp → Prop} (I : Rs cl kp τ F H fp env σ) (e : gOne ga env = some (a, env'))
    (k : ∀ F' H' fp' x, Rs cl kp τ F' H' fp' env' σ → Go F H (U fp) F' H' (U fp') → Rv cl F' H' a x → (pa = true → env' = env ∧ fp' = fp ∧ Same H H') → W x H') : ta σ H W := by
  unfold gOne at e
  rw [Option.bind_eq_some_iff] at e
  obtain ⟨⟨r1, e1⟩, h1, e⟩ := e
  rw [Option.map_eq_some_iff] at e
  obtain ⟨c, hc, e⟩ := e
  cases e
  exact ha I h1 fun F1 H1 fp1 S1 x I1 go1 rr1 pu1 => k F1 H1 fp1 x I1 (go1.mono fun p z => .inl z) (rr1.rv I1 hc) pu1
def gUn (f : A → Option A) (ga : G) : G := fun env => (gOne ga env).bind fun p => (f p.1).map fun c => (.fz c, p.2)
theorem se_un {pa : Bool} {ta : TE} {ga : G} {r : V → Hp → VK → Prop} {f : A → Option A} (hr : UnI cl r f) (ha : SE cl kp pa ta ga) : SE cl kp pa (tUn r ta) (gUn f ga) := by
  intro τ F H fp env σ Q z env' I e k
  unfold gUn at e
  rw [Option.bind_eq_some_iff] at e
  obtain ⟨⟨a, e2⟩, e1, e⟩ := e
  rw [Option.map_eq_some_iff] at e
  obtain ⟨c, hc, e⟩ := e
  cases e
  refine se_one (W := fun x H2 => r x H2 Q) ha I e1 fun F' H' fp' x I' go rx pu => ?_
  exact hr I'.le rx hc fun v rc => k F' H' fp' (fun _ => False) v I' (go.mono fun p z => z.elim id False.elim) rc pu
end
end Dl
namespace Dl
open PySem PySem.Spec L2

def R.settle (pu : Bool) (env : Env) : R → Option (A × Env)
  | .fz a => some (a, env)
  | .pl i => if pu then none else env[i]?.bind fun o => o.vw.map fun a => (a, env.set i (.fl (.fz a)))
  | .pf _ _ => none
  | .ow o => o.vw.map fun a => (a, env)
section
variable (cl : Nat → Addr)
/-- a value that is frozen where it stands -/
def SF (kp : List Nat) (pu : Bool) (t : TE) (g : Env → Option (A × Env)) : Prop :=
  ∀ ⦃τ : L2.St⦄ ⦃F H : Hp⦄ ⦃fp : Nat → Addr → Prop⦄ ⦃env : Env⦄ ⦃σ : L2.St⦄ ⦃Q : VK⦄ ⦃a : A⦄ ⦃env' : Env⦄, Rs cl kp τ F H fp env σ → g env = some (a, env') →
    (∀ F' H' fp' v, Rs cl kp τ F' H' fp' env' σ → Go F H (U fp) F' H' (U fp') → Rp cl F' a v → (pu = true → env' = env ∧ fp' = fp ∧ Same H H') → Q v H') → t σ H Q
def SA (kp : List Nat) (pu : Bool) (t : TA) (g : Env → Option (List A × Env)) : Prop :=
  ∀ ⦃τ : L2.St⦄ ⦃F H : Hp⦄ ⦃fp : Nat → Addr → Prop⦄ ⦃env : Env⦄ ⦃σ : L2.St⦄ ⦃Q : List V → Hp → Prop⦄ ⦃as : List A⦄ ⦃env' : Env⦄, Rs cl kp τ F H fp env σ → g env = some (as, env') →
    (∀ F' H' fp' vs, Rs cl kp τ F' H' fp' env' σ → Go F H (U fp) F' H' (U fp') → RpL cl F' as vs → (pu = true → env' = env ∧ fp' = fp ∧ Same H H') → Q vs H') → t σ H Q
def ST (kp : List Nat) (pu : Bool) (t : TT) (g : Env → Option (Bool × Env)) : Prop :=
  ∀ ⦃τ : L2.St⦄ ⦃F H : Hp⦄ ⦃fp : Nat → Addr → Prop⦄ ⦃env : Env⦄ ⦃σ : L2.St⦄ ⦃Q : Bool → Hp → Prop⦄ ⦃b : Bool⦄ ⦃env' : Env⦄, Rs cl kp τ F H fp env σ → g env = some (b, env') →
    (∀ F' H' fp', Rs cl kp τ F' H' fp' env' σ → Go F H (U fp) F' H' (U fp') → (pu = true → env' = env ∧ fp' = fp ∧ Same H H') → Q b H') → t σ H Q
end
section
variable {cl : Nat → Addr} {kp : List Nat} {τ σ : L2.St} {F F' H H' : Hp} {fp : Nat → Addr → Prop} {env : Env} {S : Addr → Prop}
def fpOff (fp : Nat → Addr → Prop) (i : Nat) : Nat → Addr → Prop := fun j p => j ≠ i ∧ fp j p
theorem set_at {α : Type} {l : List α} {i j : Nat} {x y : α} (h : (l.set i x)[j]? = some y) : (j = i ∧ y = x ∧ i < l.length) ∨ (j ≠ i ∧ l[j]? = some y) := by
  by_cases e : i = j
  · subst e
    by_cases hl : i < l.length
    · rw [List.getElem?_set_self hl] at h
      exact .inl ⟨rfl, (Option.some.inj h).symm, hl⟩
    · rw [List.getElem?_eq_none (by rw [List.length_set]; omega)] at h
      cases h
  · rw [List.getElem?_set_ne e] at h
    exact .inr ⟨fun z => e z.symm, h⟩
/-- a slot's thing is frozen -/
theorem Rs.freeze (I : Rs cl kp τ F H fp env σ) {i : Nat} {o : O} {a : A} {v : V} (e : env[i]? = some o) (w : o.vw = some a) (hv : σ[i]? = some (some v)) :
    Rs cl kp τ (Dl.plus F H (fp i)) H (fpOff fp i) (env.set i (.fl (.fz a))) σ ∧ Go F H (U fp) (Dl.plus F H (fp i)) H (U (fpOff fp i)) ∧ Rp cl (Dl.plus F H (fp i)) a v := by
  obtain ⟨u, hu, q⟩ := I.at e w
  rw [hv] at hu
  cases hu
  have s := I.sep i
  have le := plus_le (H := H) s
  have rp := OR.plus s q w
  refine ⟨⟨by rw [List.length_set]; exact I.len, fun j x hx => ?_, fun j k p a b => I.dis j k p a.2 b.2, fun j p h => ?_, fun j p h => I.dom j p h.2, le_plus I.le, I.pro, I.tl⟩, ?_, rp⟩
  · rcases set_at hx with ⟨rfl, rfl, _⟩ | ⟨ne, hx⟩
    · exact .inr ⟨v, hv, rp⟩
    · refine (I.slot j x hx).imp id fun ⟨v, a, b⟩ => ⟨v, a, OR.sub (fun p h => ⟨ne, h⟩) (OR.go le (fun _ _ _ z => z) b)⟩
  · rw [plus_out fun z => h.1 (I.dis j i p h.2 z)]
    exact I.sep j p h.2
  · refine ⟨le, fun _ _ _ z => z, fun p h e => ?_, fun p ⟨j, h⟩ => .inl ⟨j, h.2⟩, fun _ z => z, fun _ z => z⟩
    by_cases c : fp i p
    · exact .inr (.inl ⟨i, c⟩)
    · rw [plus_out c] at h
      exact (h e).elim
def gS (pu : Bool) (g : G) : Env → Option (A × Env) := fun env => (g env).bind fun p => p.1.settle pu p.2
theorem SE.sf {pu : Bool} {t : TE} {g : G} (h : SE cl kp pu t g) : SF cl kp pu t (gS pu g) := by
  intro τ F H fp env σ Q a env' I e k
  unfold gS at e
  rw [Option.bind_eq_some_iff] at e
  obtain ⟨⟨r, e1⟩, h1, e⟩ := e
  refine h I h1 fun F1 H1 fp1 S v I1 go rr pu1 => ?_
  have go' := go.mono (V' := U fp1) fun p z => .inl z
  cases r with
  | fz b => cases e; exact k F1 H1 fp1 v I1 go' rr pu1
  | pf i f => cases e
  | ow o =>
    obtain ⟨b, w, z⟩ := Option.map_eq_some_iff.mp e
    cases z
    have n := fun p z => (rr.2 p z).1
    exact k (plus F1 H1 S) H1 fp1 v (I1.plus rr.2) (go.plus n) (OR.plus n rr.1 w) pu1
  | pl i =>
    cases pu with
    | true => cases e
    | false =>
      obtain ⟨o, ho, e⟩ := Option.bind_eq_some_iff.mp (show (e1[i]?.bind fun o => o.vw.map fun a => (a, e1.set i (.fl (.fz a)))) = some (a, env') from e)
      obtain ⟨b, w, z⟩ := Option.map_eq_some_iff.mp e
      cases z
      obtain ⟨I2, go2, rp⟩ := I1.freeze ho w rr
      exact k _ _ _ v I2 (go'.trans go2) rp fun z => nomatch z
def gNil : Env → Option (List A × Env) := fun env => some ([], env)
def gCons (ga : Env → Option (A × Env)) (gr : Env → Option (List A × Env)) : Env → Option (List A × Env) := fun env => (ga env).bind fun p => (gr p.2).map fun q => (p.1 :: q.1, q.2)
theorem sa_nil : SA cl kp true tNil gNil := by
  intro τ F H fp env σ Q as env' I e k
  cases e
  exact k F H fp [] I Go.refl rfl fun _ => ⟨rfl, rfl, Same.refl _⟩
theorem pu_and {pa pb : Bool} {e0 e1 e2 : Env} {f0 f1 f2 : Nat → Addr → Prop} {H0 H1 H2 : Hp} (a : pa = true → e1 = e0 ∧ f1 = f0 ∧ Same H0 H1) (b : pb = true → e2 = e1 ∧ f2 = f1 ∧ Same H1 H2) : (pa && pb) = true → e2 = e0 ∧ f2 = f0 ∧ Same H0 H2 := fun z => by
  obtain ⟨z1, z2⟩ := Bool.and_eq_true_iff.mp z
  obtain ⟨a1, b1, s1⟩ := a z1
  obtain ⟨a2, b2, s2⟩ := b z2
  exact ⟨a2.trans a1, b2.trans b1, s1.trans s2⟩
theorem sa_cons {pa pb : Bool} {ta : TE} {tr : TA} {ga : Env → Option (A × Env)} {gr : Env → Option (List A × Env)} (ha : SF cl kp pa ta ga) (hr : SA cl kp pb tr gr) : SA cl kp (pa && pb) (tCons ta tr) (gCons ga gr) := by
  intro τ F H fp env σ Q as env' I e k
  unfold gCons at e
  rw [Option.bind_eq_some_iff] at e
  obtain ⟨⟨a, e1⟩, h1, e⟩ := e
  rw [Option.map_eq_some_iff] at e
  obtain ⟨⟨as', e2⟩, h2, z⟩ := e
  cases z
  refine ha I h1 fun F1 H1 fp1 v I1 go1 r1 pu1 => ?_
  refine hr I1 h2 fun F2 H2 fp2 vs I2 go2 r2 pu2 => ?_
  exact k F2 H2 fp2 (v :: vs) I2 (go1.trans go2) ⟨v, vs, rfl, Rp.same go2.sF r1, r2⟩ (pu_and pu1 pu2)
/-- a new frozen thing -/
theorem Rs.laidF (I : Rs cl kp τ F H fp env σ) {p : Addr} {o : HO} (n : H p = none) : Rs cl kp τ (upd F p o) (upd H p o) fp env σ := by
  have J := I.laid (o := o) n
  have fn : F p = none := by
    cases e : F p with
    | none => rfl
    | some u => rw [I.le _ _ e] at n; cases n
  refine ⟨J.len, fun i x e => (J.slot i x e).imp id fun ⟨v, a, b⟩ => ⟨v, a, OR.go (same_new fn) (fun _ _ _ z => z) b⟩, J.dis, fun i q h => ?_, J.dom, fun q u e => ?_, J.pro, J.tl⟩
  · rw [upd_ne (fun z => (I.dom i q h).ne (by rw [z]; exact n))]
    exact I.sep i q h
  · by_cases c : q = p
    · rw [c, upd_same] at e ⊢; exact e
    · rw [upd_ne c] at e ⊢; exact I.le _ _ e
theorem Go.laidF {U : Addr → Prop} {p : Addr} {o : HO} (le : Same F H) (n : H p = none) : Go F H U (upd F p o) (upd H p o) U := by
  have fn : F p = none := by
    cases e : F p with
    | none => rfl
    | some u => rw [le _ _ e] at n; cases n
  refine ⟨same_new fn, fun q u _ e => same_new n _ _ e, fun q h e => ?_, fun q h => .inl h, (Go.laid (F := F) (U := U) n).dom, (Go.laid (F := F) (U := U) n).ntd⟩
  by_cases c : q = p
  · rw [c]; exact .inl n
  · rw [upd_ne c] at h; exact (h e).elim
def gTup (g : Env → Option (List A × Env)) : G := fun env => (g env).bind fun p => if p.1.length ≤ sizeLine then some (.fz (.tup p.1), p.2) else none
def gLst (g : Env → Option (List A × Env)) : G := fun env => (g env).bind fun p => if p.1.length ≤ sizeLine then some (.ow (.fl (.lst p.1)), p.2) else none
theorem se_tup {pu : Bool} {t : TA} {g : Env → Option (List A × Env)} (h : SA cl kp pu t g) : SE cl kp pu (tTup t) (gTup g) := by
  intro τ F H fp env σ Q r env' I e k
  unfold gTup at e
  obtain ⟨⟨as, e1⟩, h1, e⟩ := Option.bind_eq_some_iff.mp e
  by_cases c : as.length ≤ sizeLine
  · simp only [if_pos c] at e
    cases e
    refine h I h1 fun F1 H1 fp1 vs I1 go1 r1 pu1 => ⟨by rw [r1.length]; exact c, fun p n => ?_⟩
    refine k _ _ fp1 (fun _ => False) _ (I1.laidF n) ((go1.trans (Go.laidF I1.le n)).mono fun q z => z.elim id False.elim) ⟨p, vs, rfl, upd_same, RpL.same (same_new ?_) r1⟩ fun z => ?_
    · cases e : F1 p with
      | none => rfl
      | some u => rw [I1.le _ _ e] at n; cases n
    · obtain ⟨a, b, s⟩ := pu1 z
      exact ⟨a, b, s.trans (same_new n)⟩
  · simp only [if_neg c] at e
    cases e
theorem se_lst {pu : Bool} {t : TA} {g : Env → Option (List A × Env)} (h : SA cl kp pu t g) : SE cl kp pu (tLst t) (gLst g) := by
  intro τ F H fp env σ Q r env' I e k
  unfold gLst at e
  obtain ⟨⟨as, e1⟩, h1, e⟩ := Option.bind_eq_some_iff.mp e
  by_cases c : as.length ≤ sizeLine
  · simp only [if_pos c] at e
    cases e
    refine h I h1 fun F1 H1 fp1 vs I1 go1 r1 pu1 => ⟨by rw [r1.length]; exact c, fun p n => ?_⟩
    refine k _ _ fp1 (fun q => q = p) _ (I1.laid n) (go1.trans (Go.laid n)) (RR.newL I1 n r1) fun z => ?_
    obtain ⟨a, b, s⟩ := pu1 z
    exact ⟨a, b, s.trans (same_new n)⟩
  · simp only [if_neg c] at e
    cases e
/-! ### tests -/
def gB (g : G) : Env → Option (Bool × Env) := fun env => (g env).bind fun p => match p.1 with
  | .fz (.bl b) => some (b, p.2)
  | _ => none
theorem gB_inv {g : G} {b : Bool} {env env' : Env} (e : gB g env = some (b, env')) : g env = some (.fz (.bl b), env') := by
  unfold gB at e
  obtain ⟨⟨r, e1⟩, h1, e⟩ := Option.bind_eq_some_iff.mp e
  rw [h1]
  split at e
  · rename_i c hc
    cases e
    cases hc
    rfl
  · cases e
theorem st_val {pu : Bool} {t : TE} {g : G} (h : SE cl kp pu t g) : ST cl kp pu (tB t) (gB g) := by
  intro τ F H fp env σ Q b env' I e k
  exact h I (gB_inv e) fun F1 H1 fp1 S v I1 go rr pu1 => ⟨b, rr, k F1 H1 fp1 I1 (go.mono fun p z => .inl z) pu1⟩
theorem st_test {pu : Bool} {t : TE} {g : G} (h : SE cl kp pu t g) : ST cl kp pu (tTest t) (gB g) := st_val h
def gNotT (g : Env → Option (Bool × Env)) : Env → Option (Bool × Env) := fun env => (g env).map fun p => (!p.1, p.2)
theorem st_not {pu : Bool} {t : TT} {g : Env → Option (Bool × Env)} (h : ST cl kp pu t g) : ST cl kp pu (tNot t) (gNotT g) := by
  intro τ F H fp env σ Q b env' I e k
  obtain ⟨⟨c, e1⟩, h1, z⟩ := Option.map_eq_some_iff.mp e
  cases z
  exact h I h1 k
def gAndT (g k : Env → Option (Bool × Env)) : Env → Option (Bool × Env) := fun env => (g env).bind fun p => if p.1 then k p.2 else some (false, p.2)
def gOrT (g k : Env → Option (Bool × Env)) : Env → Option (Bool × Env) := fun env => (g env).bind fun p => if p.1 then some (true, p.2) else k p.2
theorem pu_left {pa pb : Bool} {P : Prop} (a : pa = true → P) : (pa && pb) = true → P := fun z => a (Bool.and_eq_true_iff.mp z).1
theorem st_or {pa pb : Bool} {t u : TT} {g h : Env → Option (Bool × Env)} (ha : ST cl kp pa t g) (hb : ST cl kp pb u h) : ST cl kp (pa && pb) (tOr t u) (gOrT g h) := by
  intro τ F H fp env σ Q b env' I e k
  obtain ⟨⟨c, e1⟩, h1, e⟩ := Option.bind_eq_some_iff.mp e
  refine ha I h1 fun F1 H1 fp1 I1 go1 pu1 => ?_
  cases c with
  | false => exact hb I1 e fun F2 H2 fp2 I2 go2 pu2 => k F2 H2 fp2 I2 (go1.trans go2) (pu_and pu1 pu2)
  | true => cases e; exact k F1 H1 fp1 I1 go1 (pu_left pu1)
/-! ### and, or, not, if as values -/
def gBl (g : Env → Option (Bool × Env)) : G := fun env => (g env).map fun p => (.fz (.bl p.1), p.2)
theorem ST.bl {pu : Bool} {t : TT} {g : Env → Option (Bool × Env)} (h : ST cl kp pu t g) : SE cl kp pu (fun σ H Q => t σ H fun c H1 => Q (.bl c) H1) (gBl g) := by
  intro τ F H fp env σ Q r env' I e k
  obtain ⟨⟨c, e1⟩, h1, z⟩ := Option.map_eq_some_iff.mp e
  cases z
  exact h I h1 fun F1 H1 fp1 I1 go1 pu1 => k F1 H1 fp1 (fun _ => False) _ I1 (go1.mono fun q z => z.elim id False.elim) rfl pu1
theorem se_not {pu : Bool} {t : TE} {g : G} (h : SE cl kp pu t g) : SE cl kp pu (tNotV t) (gBl (gNotT (gB g))) := by
  intro τ F H fp env σ Q r env' I e k
  obtain ⟨⟨c, e1⟩, h1, z⟩ := Option.map_eq_some_iff.mp e
  cases z
  obtain ⟨⟨d, e2⟩, h2, z⟩ := Option.map_eq_some_iff.mp h1
  cases z
  exact h I (gB_inv h2) fun F1 H1 fp1 S v I1 go1 rr pu1 => ⟨d, rr, k F1 H1 fp1 (fun _ => False) _ I1 (go1.mono fun q z => z.elim .inl False.elim) rfl pu1⟩
def gAndV (g k : G) : G := fun env => (gB g env).bind fun p => if p.1 then k p.2 else some (.fz (.bl false), p.2)
def gOrV (g k : G) : G := fun env => (gB g env).bind fun p => if p.1 then some (.fz (.bl true), p.2) else k p.2
theorem se_and {pa pb : Bool} {t u : TE} {g h : G} (ha : SE cl kp pa t g) (hb : SE cl kp pb u h) : SE cl kp (pa && pb) (tAndV t u) (gAndV g h) := by
  intro τ F H fp env σ Q b env' I e k
  obtain ⟨⟨c, e1⟩, h1, e⟩ := Option.bind_eq_some_iff.mp e
  refine ha I (gB_inv h1) fun F1 H1 fp1 S1 v1 I1 go1 rr1 pu1 => ⟨c, rr1, ?_⟩
  have go1' := go1.mono (V' := U fp1) fun q z => .inl z
  cases c with
  | true => exact hb I1 e fun F2 H2 fp2 S v I2 go2 rr pu2 => k F2 H2 fp2 S v I2 (go1'.trans go2) rr (pu_and pu1 pu2)
  | false => cases e; exact k F1 H1 fp1 (fun _ => False) _ I1 (go1'.mono fun q z => z.elim id False.elim) rfl (pu_left pu1)
def gIf (c : Env → Option (Bool × Env)) (g h : G) : G := fun env => (c env).bind fun p => if p.1 then g p.2 else h p.2
end
end Dl
namespace Dl
open PySem PySem.Spec L2

/-! ## operations on trees -/
def fI0 (g : Int → Int → A) : A → A → Option A
  | .int i, .int j => some (g i j)
  | _, _ => none
def fI (C : Int → Int → Prop) [∀ i j, Decidable (C i j)] (g : Int → Int → A) : A → A → Option A
  | .int i, .int j => if C i j then some (g i j) else none
  | _, _ => none
abbrev fAdd := fI0 fun i j => .int (i + j)
abbrev fSub := fI0 fun i j => .int (i - j)
abbrev fLt := fI0 fun i j => .bl (decide (i < j))
abbrev fLe := fI0 fun i j => .bl (decide (i ≤ j))
abbrev fGt := fI0 fun i j => .bl (decide (j < i))
abbrev fGe := fI0 fun i j => .bl (decide (j ≤ i))
instance : ∀ i j, Decidable (CMul i j) := fun i j => by unfold CMul; exact inferInstance
/-- // by a positive divisor that is not huge -/
def CDivB (i j : Int) : Prop := 0 < j ∧ j < 100000000000000000000000000000000000000000
theorem op_fdivB {X : Cx} : OpR X (binaryOp .FloorDiv) (rI CDivB fun i j => .int (i / j)) := opI fun i j _ _ _ _ _ hc q => by
  have h1 : (0 : Int) < j := hc.1
  have h2 : j < 100000000000000000000000000000000000000000 := hc.2
  refine PyProof.Rows.floordiv_int (by omega) (by rw [Int.fdiv_eq_ediv_of_nonneg i (by omega)]; exact q) (.inl (PyProof.noPylong_of_log2 (Nat.lt_trans ((Nat.log2_lt (by omega)).mpr (Nat.lt_trans (m := 100000000000000000000000000000000000000000) (by omega) (by decide +kernel : 100000000000000000000000000000000000000000 < 2 ^ 137))) (by decide))))
instance : ∀ i j, Decidable (CDivB i j) := fun i j => by unfold CDivB; exact inferInstance
instance : ∀ i j, Decidable (CPow i j) := fun i j => by unfold CPow; exact inferInstance
abbrev fMul := fI CMul fun i j => .int (i * j)
abbrev fDiv := fI CDivB fun i j => .int (i / j)
abbrev fMod := fI (fun _ j => 0 < j) fun i j => .int (i % j)
abbrev fPow := fI CPow fun i j => .int (i ^ j.toNat)
def fEq (a b : A) : Option A := a.sc.bind fun x => b.sc.bind fun y => if scal x y then some (.bl (decide (x = y))) else none
def fNe (a b : A) : Option A := a.sc.bind fun x => b.sc.bind fun y => if scal x y then some (.bl (!decide (x = y))) else none
def A.isN : A → Bool
  | .non => true | _ => false
def fIsN (a b : A) : Option A := match b with
  | .non => some (.bl a.isN)
  | _ => none
def fNotN (a b : A) : Option A := match b with
  | .non => some (.bl (!a.isN))
  | _ => none
def fIsB : A → A → Option A
  | .bl a, .bl b => some (.bl (decide (a = b)))
  | _, _ => none
def fNotB : A → A → Option A
  | .bl a, .bl b => some (.bl (!decide (a = b)))
  | _, _ => none
mutual
def A.toD : A → Option PyData
  | .non => some .none | .bl b => some (.bool b) | .int i => some (.int i) | .str s => some (.str s)
  | .lst xs => (A.toDL xs).map .list
  | .tup xs => (A.toDL xs).map .tuple
  | _ => none
def A.toDL : List A → Option (List PyData)
  | [] => some []
  | x :: xs => (A.toD x).bind fun d => (A.toDL xs).map (d :: ·)
end
def fEqD (a b : A) : Option A := a.toD.bind fun d => b.toD.bind fun e => if SeqAt.shaped d && SeqAt.shaped e then some (.bl (PyData.eqv d e)) else none
def fNeD (a b : A) : Option A := a.toD.bind fun d => b.toD.bind fun e => if SeqAt.shaped d && SeqAt.shaped e then some (.bl (!PyData.eqv d e)) else none
def scs : List A → Option (List V)
  | [] => some []
  | x :: xs => x.sc.bind fun v => (scs xs).map (v :: ·)
def A.items : A → Option (List A)
  | .lst xs => some xs | .tup xs => some xs | _ => none
/-- in, of flat things -/
def fInS (neg : Bool) (a b : A) : Option A := a.sc.bind fun x => b.items.bind fun l => (scs l).map fun ys => .bl (if neg then !inV x ys else inV x ys)
/-- .. in a tuple -/
def fInT (neg : Bool) (a b : A) : Option A := match b with
  | .tup l => a.toD.bind fun d => (A.toDL l).bind fun ds => if SeqAt.shaped d && SeqAt.shaped (.tuple ds) then some (.bl (if neg then !ds.any fun z => PyData.eqv z d else ds.any fun z => PyData.eqv z d)) else none
  | _ => none
def fIxL (a b : A) : Option A := match a, b with
  | .lst xs, .int i => atI xs i
  | _, _ => none
def fIxT (a b : A) : Option A := match a, b with
  | .tup xs, .int i => atI xs i
  | _, _ => none
def fIxS (a b : A) : Option A := match a, b with
  | .str z, .int i => if z.length ≤ sizeLine then (atI z.cps.toList i).map fun c => .str ⟨#[c]⟩ else none
  | _, _ => none
def fAddS (a b : A) : Option A := match a, b with
  | .str i, .str j => if i.length + j.length ≤ sizeLine then some (.str (i ++ j)) else none
  | _, _ => none
def fLtS (a b : A) : Option A := match a, b with
  | .str i, .str j => some (.bl (decide (i.cps.toList < j.cps.toList)))
  | _, _ => none
def fLeS (a b : A) : Option A := match a, b with
  | .str i, .str j => some (.bl (!decide (j.cps.toList < i.cps.toList)))
  | _, _ => none
def fCat (a b : A) : Option (List A) := match a, b with
  | .lst xs, .lst ys => if xs.length + ys.length ≤ sizeLine then some (xs ++ ys) else none
  | _, _ => none
def keyA : A → Option Key
  | .int i => some (.inl i) | .str s => some (.inr s) | _ => none
def keysA : List A → Option (List Key)
  | [] => some []
  | x :: xs => (keyA x).bind fun k => (keysA xs).map (k :: ·)
def valA {κ : Type} [DecidableEq κ] : List κ → List A → κ → Option A
  | k :: ks, x :: xs, q => if k = q then some x else valA ks xs q
  | _, _, _ => none
/-- what a dict holds at a key -/
def fGetO (d k : A) : Option (Option A) := match d, k with
  | .dK ks xs, k => (keyA k).map fun q => valA ks xs q
  | .dT ks xs, .tup l => (keysA l).map fun q => valA ks xs q
  | _, _ => none
def fGet (d k : A) : Option A := (fGetO d k).bind id
def fDIn (k d : A) : Option A := (fGetO d k).map fun o => .bl o.isSome
def fDNotIn (k d : A) : Option A := (fGetO d k).map fun o => .bl (!o.isSome)
section
variable {cl : Nat → Addr}
theorem oi_I0 {g : Int → Int → V} {h : Int → Int → A} (e : ∀ i j, (h i j).sc = some (g i j)) : OpI cl (rI0 g) (fI0 h) := by
  intro F H x y a b c Q s ra rb hf k
  unfold fI0 at hf
  split at hf
  · cases hf
    exact ⟨_, _, ra, rb, k _ (Rp.of_sc (e _ _))⟩
  · cases hf
theorem oi_I {C : Int → Int → Prop} [∀ i j, Decidable (C i j)] {g : Int → Int → V} {h : Int → Int → A} (e : ∀ i j, (h i j).sc = some (g i j)) : OpI cl (rI C g) (fI C h) := by
  intro F H x y a b c Q s ra rb hf k
  unfold fI at hf
  split at hf
  · rename_i i j
    by_cases z : C i j
    · rw [if_pos z] at hf
      cases hf
      exact ⟨_, _, ra, rb, z, k _ (Rp.of_sc (e _ _))⟩
    · rw [if_neg z] at hf; cases hf
  · cases hf
theorem oi_add : OpI cl (rI0 fun i j => .int (i + j)) fAdd := oi_I0 fun _ _ => rfl
theorem oi_sub : OpI cl (rI0 fun i j => .int (i - j)) fSub := oi_I0 fun _ _ => rfl
theorem oi_lt : OpI cl (rI0 fun i j => .bl (decide (i < j))) fLt := oi_I0 fun _ _ => rfl
theorem oi_le : OpI cl (rI0 fun i j => .bl (decide (i ≤ j))) fLe := oi_I0 fun _ _ => rfl
theorem oi_gt : OpI cl (rI0 fun i j => .bl (decide (j < i))) fGt := oi_I0 fun _ _ => rfl
theorem oi_ge : OpI cl (rI0 fun i j => .bl (decide (j ≤ i))) fGe := oi_I0 fun _ _ => rfl
theorem oi_mul : OpI cl (rI CMul fun i j => .int (i * j)) fMul := oi_I fun _ _ => rfl
theorem oi_div : OpI cl (rI CDivB fun i j => .int (i / j)) fDiv := oi_I fun _ _ => rfl
theorem oi_mod : OpI cl (rI (fun _ j => 0 < j) fun i j => .int (i % j)) fMod := oi_I fun _ _ => rfl
theorem oi_pow : OpI cl (rI CPow fun i j => .int (i ^ j.toNat)) fPow := oi_I fun _ _ => rfl
theorem Rv.sc {F H : Hp} {a : A} {v u : V} (h : Rv cl F H a u) (e : a.sc = some v) : u = v := by
  cases a <;> simp [A.sc] at e <;> subst e <;> exact h
theorem oi_eq : OpI cl rEq fEq := by
  intro F H x y a b c Q s ra rb hf k
  unfold fEq at hf
  obtain ⟨v, hv, hf⟩ := Option.bind_eq_some_iff.mp hf
  obtain ⟨u, hu, hf⟩ := Option.bind_eq_some_iff.mp hf
  by_cases z : scal v u = true
  · rw [if_pos z] at hf
    cases hf
    rw [ra.sc hv, rb.sc hu]
    exact ⟨z, k _ rfl⟩
  · rw [if_neg z] at hf; cases hf
theorem oi_ne : OpI cl rNe fNe := by
  intro F H x y a b c Q s ra rb hf k
  unfold fNe at hf
  obtain ⟨v, hv, hf⟩ := Option.bind_eq_some_iff.mp hf
  obtain ⟨u, hu, hf⟩ := Option.bind_eq_some_iff.mp hf
  by_cases z : scal v u = true
  · rw [if_pos z] at hf
    cases hf
    rw [ra.sc hv, rb.sc hu]
    exact ⟨z, k _ rfl⟩
  · rw [if_neg z] at hf; cases hf
mutual
theorem Rp.dp {K : PySem.W.Frag} {H : Hp} : ∀ {a : A} {v : V} {d : PyData}, Rp cl H a v → a.toD = some d → Dp K H v d
  | .non, _, _, h, e => by cases h; cases e; exact .non
  | .bl _, _, _, h, e => by cases h; cases e; exact .bl _
  | .int _, _, _, h, e => by cases h; cases e; exact .int _
  | .str _, _, _, h, e => by cases h; cases e; exact .str _
  | .lst _, _, _, h, e => by
    obtain ⟨p, vs, rfl, q, r⟩ := h
    obtain ⟨ds, hd, rfl⟩ := Option.map_eq_some_iff.mp e
    exact .lst (SqL.of q) (RpL.dp r hd)
  | .tup _, _, _, h, e => by
    obtain ⟨p, vs, rfl, q, r⟩ := h
    obtain ⟨ds, hd, rfl⟩ := Option.map_eq_some_iff.mp e
    exact .tup (SqT.of q) (RpL.dp r hd)
  | .dK _ _, _, _, _, e => by cases e
  | .dT _ _, _, _, _, e => by cases e
  | .ins _ _ _, _, _, _, e => by cases e
  | .kls _, _, _, _, e => by cases e
theorem RpL.dp {K : PySem.W.Frag} {H : Hp} : ∀ {xs : List A} {vs : List V} {ds : List PyData}, RpL cl H xs vs → A.toDL xs = some ds → DpAll K H vs ds
  | [], _, _, h, e => by cases h; cases e; exact .nil
  | _ :: _, _, _, h, e => by
    obtain ⟨v, r, rfl, q, z⟩ := h
    obtain ⟨d, hd, e⟩ := Option.bind_eq_some_iff.mp e
    obtain ⟨ds, hds, rfl⟩ := Option.map_eq_some_iff.mp e
    exact .cons (Rp.dp q hd) (RpL.dp z hds)
end
theorem and_t {a b : Bool} (h : (a && b) = true) : a = true ∧ b = true := Bool.and_eq_true_iff.mp h
theorem oi_eqD {K : PySem.W.Frag} : OpI cl (rEqD K) fEqD := by
  intro F H x y a b c Q s ra rb hf k
  unfold fEqD at hf
  obtain ⟨d, hd, hf⟩ := Option.bind_eq_some_iff.mp hf
  obtain ⟨e, he, hf⟩ := Option.bind_eq_some_iff.mp hf
  split at hf
  · rename_i z
    cases hf
    exact ⟨d, e, (ra.rp s).dp hd, (rb.rp s).dp he, (and_t z).1, (and_t z).2, k _ rfl⟩
  · cases hf
theorem oi_neD {K : PySem.W.Frag} : OpI cl (rNeD K) fNeD := by
  intro F H x y a b c Q s ra rb hf k
  unfold fNeD at hf
  obtain ⟨d, hd, hf⟩ := Option.bind_eq_some_iff.mp hf
  obtain ⟨e, he, hf⟩ := Option.bind_eq_some_iff.mp hf
  split at hf
  · rename_i z
    cases hf
    exact ⟨d, e, (ra.rp s).dp hd, (rb.rp s).dp he, (and_t z).1, (and_t z).2, k _ rfl⟩
  · cases hf
theorem RpL.scs : ∀ {F : Hp} {xs : List A} {vs us : List V}, RpL cl F xs vs → scs xs = some us → vs = us
  | _, [], _, _, h, e => by cases h; cases e; rfl
  | _, _ :: _, _, _, h, e => by
    obtain ⟨v, r, rfl, q, z⟩ := h
    obtain ⟨d, hd, e⟩ := Option.bind_eq_some_iff.mp e
    obtain ⟨ds, hds, rfl⟩ := Option.map_eq_some_iff.mp e
    rw [q.sc hd, RpL.scs z hds]
theorem sc_flat {a : A} {v : V} (e : a.sc = some v) : flatV v = true := by
  cases a <;> simp [A.sc] at e <;> subst e <;> rfl
theorem scs_flat : ∀ {xs : List A} {us : List V}, scs xs = some us → us.all flatV = true
  | [], _, e => by cases e; rfl
  | _ :: _, _, e => by
    obtain ⟨d, hd, e⟩ := Option.bind_eq_some_iff.mp e
    obtain ⟨ds, hds, rfl⟩ := Option.map_eq_some_iff.mp e
    rw [List.all_cons, sc_flat hd, scs_flat hds]
    rfl
theorem Rv.items {K : PySem.W.Frag} {F H : Hp} {a : A} {v : V} {l : List A} (s : Same F H) (h : Rv cl F H a v) (e : a.items = some l) : ∃ p vs, v = .ref p ∧ (SqL K H p vs ∨ SqT K H p vs) ∧ RpL cl F l vs := by
  cases a with
  | lst xs => cases e; obtain ⟨p, vs, e, q, r⟩ := h; exact ⟨p, vs, e, .inl (SqL.of q), r⟩
  | tup xs => cases e; obtain ⟨p, vs, e, q, r⟩ := h; exact ⟨p, vs, e, .inr (SqT.of (s _ _ q)), r⟩
  | _ => cases e
theorem oi_inS {K : PySem.W.Frag} {neg : Bool} : OpI cl (rIn K neg) (fInS neg) := by
  intro F H x y a b c Q s ra rb hf k
  unfold fInS at hf
  obtain ⟨v, hv, hf⟩ := Option.bind_eq_some_iff.mp hf
  obtain ⟨l, hl, hf⟩ := Option.bind_eq_some_iff.mp hf
  obtain ⟨ys, hy, rfl⟩ := Option.map_eq_some_iff.mp hf
  obtain ⟨p, vs, rfl, q, r⟩ := Rv.items (K := K) s rb hl
  rw [RpL.scs r hy] at q
  rw [ra.sc hv]
  exact ⟨p, ys, rfl, q, sc_flat hv, scs_flat hy, k _ rfl⟩
theorem RpL.atI {F : Hp} {xs : List A} {vs : List V} {i : Int} {a : A} (h : RpL cl F xs vs) (e : L2.atI xs i = some a) : ∃ v, L2.atI vs i = some v ∧ Rp cl F a v := by
  unfold L2.atI at e ⊢
  rw [h.length]
  obtain ⟨j, hj, e⟩ := Option.bind_eq_some_iff.mp e
  obtain ⟨v, hv, r⟩ := h.at e
  exact ⟨v, by rw [hj]; exact hv, r⟩
theorem oi_ixL {K : PySem.W.Frag} : OpI cl (rIxL K) fIxL := by
  intro F H x y a b c Q s ra rb hf k
  unfold fIxL at hf
  split at hf
  · obtain ⟨p, vs, rfl, q, r⟩ := ra
    obtain ⟨v, hv, rv⟩ := r.atI hf
    exact ⟨p, vs, _, v, rfl, rb, SqL.of q, hv, k v rv⟩
  · cases hf
theorem oi_ixT {K : PySem.W.Frag} : OpI cl (rIxT K) fIxT := by
  intro F H x y a b c Q s ra rb hf k
  unfold fIxT at hf
  split at hf
  · obtain ⟨p, vs, rfl, q, r⟩ := ra
    obtain ⟨v, hv, rv⟩ := r.atI hf
    exact ⟨p, vs, _, v, rfl, rb, SqT.of (s _ _ q), hv, k v rv⟩
  · cases hf
theorem on_cat : OpN cl rCat fCat := by
  intro F H x y a b c Q s ra rb hf k
  unfold fCat at hf
  split at hf
  · split at hf
    · rename_i z
      cases hf
      obtain ⟨p, vs, rfl, q, r⟩ := ra
      obtain ⟨p', vs', rfl, q', r'⟩ := rb
      exact ⟨p, p', vs, vs', rfl, rfl, q, q', by rw [r.length, r'.length]; exact z, fun d hd => k d _ hd (r.app r')⟩
    · cases hf
  · cases hf
/-! ### dicts -/
theorem keyA_kV {F H : Hp} {a : A} {v : V} {k : Key} (h : Rv cl F H a v) (e : keyA a = some k) : v = kV k := by
  cases a <;> simp [keyA] at e <;> subst e <;> exact h
theorem keysA_kV : ∀ {F : Hp} {xs : List A} {vs : List V} {ks : List Key}, RpL cl F xs vs → keysA xs = some ks → vs = ks.map kV
  | _, [], _, _, h, e => by cases h; cases e; rfl
  | _, _ :: _, _, _, h, e => by
    obtain ⟨v, r, rfl, q, z⟩ := h
    obtain ⟨d, hd, e⟩ := Option.bind_eq_some_iff.mp e
    obtain ⟨ds, hds, rfl⟩ := Option.map_eq_some_iff.mp e
    rw [keyA_kV (Rp.rv (Same.refl _) q) hd, keysA_kV z hds]
    rfl
theorem valV_cons {κ : Type} [DecidableEq κ] {k q : κ} {v : V} {r : List (κ × V)} : valV ((k, v) :: r) q = if k = q then some v else valV r q := by
  unfold valV
  rw [List.find?_cons]
  by_cases e : k = q
  · rw [if_pos e]; simp [e]
  · rw [if_neg e]; simp [e]
def ORel (cl : Nat → Addr) (F : Hp) : Option A → Option V → Prop
  | none, w => w = none
  | some a, w => ∃ v, w = some v ∧ Rp cl F a v
theorem valA_ok {κ : Type} [DecidableEq κ] {F : Hp} : ∀ {ks : List κ} {xs : List A} {vs : List V} {q : κ}, ks.length = xs.length → RpL cl F xs vs → ORel cl F (valA ks xs q) (valV (ks.zip vs) q)
  | [], [], _, _, _, h => by cases h; rfl
  | [], _ :: _, _, _, e, _ => by cases e
  | _ :: _, [], _, _, e, _ => by cases e
  | k :: ks, x :: xs, _, q, e, h => by
    obtain ⟨v, r, rfl, hv, z⟩ := h
    have ih := valA_ok (q := q) (show ks.length = xs.length by simpa using e) z
    by_cases c : k = q
    · have e1 : valA (k :: ks) (x :: xs) q = some x := by show (if k = q then some x else valA ks xs q) = _; rw [if_pos c]
      rw [e1, List.zip_cons_cons, valV_cons, if_pos c]
      exact ⟨v, rfl, hv⟩
    · have e1 : valA (k :: ks) (x :: xs) q = valA ks xs q := by show (if k = q then some x else valA ks xs q) = _; rw [if_neg c]
      rw [e1, List.zip_cons_cons, valV_cons, if_neg c]
      exact ih
/-- what a dict says of a key -/
theorem dget_ok {F H : Hp} {d k : A} {x y : V} {o : Option A} (rd : Rv cl F H d x) (rk : Rv cl F H k y) (s : Same F H) (e : fGetO d k = some o) :
    ∃ a w, x = .ref a ∧ DGet H a y w ∧ ORel cl F o w := by
  unfold fGetO at e
  split at e
  · obtain ⟨q, hq, rfl⟩ := Option.map_eq_some_iff.mp e
    obtain ⟨p, vs, rfl, h, z, r⟩ := rd
    rw [keyA_kV rk hq]
    exact ⟨p, _, rfl, .inl ⟨_, q, h, rfl, rfl⟩, valA_ok z r⟩
  · obtain ⟨q, hq, rfl⟩ := Option.map_eq_some_iff.mp e
    obtain ⟨p, vs, rfl, h, z, r⟩ := rd
    obtain ⟨p', vs', rfl, h', r'⟩ := rk
    rw [keysA_kV r' hq] at h'
    exact ⟨p, _, rfl, .inr ⟨_, q, p', h, rfl, s _ _ h', rfl⟩, valA_ok z r⟩
  · cases e
variable {kp : List Nat}
theorem se_dget {pa pb : Bool} {td tk : TE} {gd gk : G} (hd : SE cl kp pa td gd) (hk : SE cl kp pb tk gk) : SE cl kp (pa && pb) (tDGet td tk) (gOp pb fGet gd gk) := by
  have : tDGet td tk = tOp (fun x y H Q => ∃ a v, x = .ref a ∧ DGet H a y (some v) ∧ Q v H) td tk := rfl
  rw [this]
  refine se_op (fun F H x y a b c Q s ra rb hf k => ?_) hd hk
  obtain ⟨o, ho, e⟩ := Option.bind_eq_some_iff.mp hf
  cases (show o = some c from e)
  obtain ⟨p, w, e1, g, v, rfl, r⟩ := dget_ok ra rb s ho
  exact ⟨p, v, e1, g, k v r⟩
theorem se_din {pa pb : Bool} {td tk : TE} {gd gk : G} (hk : SE cl kp pa tk gk) (hd : SE cl kp pb td gd) : SE cl kp (pa && pb) (tDIn tk td) (gOp pb fDIn gk gd) := by
  have : tDIn tk td = tOp (fun y x H Q => ∃ a o, x = .ref a ∧ DGet H a y o ∧ Q (.bl o.isSome) H) tk td := rfl
  rw [this]
  refine se_op (fun F H x y a b c Q s ra rb hf k => ?_) hk hd
  obtain ⟨o, ho, rfl⟩ := Option.map_eq_some_iff.mp hf
  obtain ⟨p, w, e1, g, r⟩ := dget_ok rb ra s ho
  refine ⟨p, w, e1, g, k _ ?_⟩
  cases o with
  | none => cases r; rfl
  | some z => obtain ⟨v, rfl, _⟩ := r; rfl
/-! ### unary -/
def fNeg : A → Option A
  | .int i => some (.int (-i))
  | _ => none
theorem ui_neg : UnI cl (rU fun i => .int (-i)) fNeg := by
  intro F H x a c Q s ra hf k
  unfold fNeg at hf
  split at hf
  · cases hf; exact ⟨_, ra, k _ rfl⟩
  · cases hf
/-! ### chains of two comparisons -/
def gChain (f f' : A → A → Option A) (ga gb gc : G) : G := fun env => (gTwo true ga gb env).bind fun p => (f p.1 p.2.1).bind fun z => match z with
  | .bl true => (gOne gc p.2.2).bind fun q => (f' p.2.1 q.1).map fun c => (.fz c, q.2)
  | .bl false => some (.fz (.bl false), p.2.2)
  | _ => none
theorem se_chain {ta tb tc : TE} {ga gb gc : G} {r r' : R2} {f f' : A → A → Option A} (hr : OpI cl r f) (hr' : OpI cl r' f') (ha : SE cl kp true ta ga) (hb : SE cl kp true tb gb) (hc : SE cl kp true tc gc) : SE cl kp true (tChain r r' ta tb tc) (gChain f f' ga gb gc) := by
  intro τ F H fp env σ Q z env' I e k
  obtain ⟨⟨a, b, e2⟩, e1, e⟩ := Option.bind_eq_some_iff.mp e
  obtain ⟨c, hcc, e⟩ := Option.bind_eq_some_iff.mp e
  refine se_two (W := fun x y H2 => r x y H2 fun z H3 => ∃ k, z = .bl k ∧ (if k = true then tc σ H3 fun w' H4 => r' y w' H4 Q else Q (.bl false) H3)) ha hb I e1 fun F' H' fp' x y I' go rx ry pu => ?_
  obtain ⟨p1, p2, p3⟩ := pu rfl
  refine hr I'.le rx ry hcc fun v rc => ?_
  cases c with
  | bl d =>
    cases rc
    refine ⟨d, rfl, ?_⟩
    cases d with
    | true =>
      obtain ⟨⟨w, e3⟩, h3, e⟩ := Option.bind_eq_some_iff.mp e
      obtain ⟨c, hc', e⟩ := Option.map_eq_some_iff.mp e
      cases e
      refine se_one (W := fun w' H4 => r' y w' H4 Q) hc I' h3 fun F3 H3 fp3 u I3 go3 ru pu3 => ?_
      obtain ⟨q1, q2, q3⟩ := pu3 rfl
      have ry3 : Rv cl F3 H3 b y := by
        cases b with
        | lst xs => obtain ⟨p, vs, e, q, r⟩ := ry; exact ⟨p, vs, e, q3 _ _ q, RpL.same go3.sF r⟩
        | tup xs => exact Rp.same go3.sF (a := .tup xs) ry
        | dK ks xs => obtain ⟨p, vs, e, q, z, r⟩ := ry; exact ⟨p, vs, e, Rd.same q3 q, z, RpL.same go3.sF r⟩
        | dT ks xs => obtain ⟨p, vs, e, q, z, r⟩ := ry; exact ⟨p, vs, e, Rd.same q3 q, z, RpL.same go3.sF r⟩
        | ins c ns xs => exact Rp.same q3 ry
        | _ => exact ry
      exact hr' I3.le ry3 ru hc' fun v rv => k F3 H3 fp3 (fun _ => False) v I3 ((go.trans go3).mono fun q z => z.elim id False.elim) rv fun _ => ⟨q1.trans p1, q2.trans p2, p3.trans q3⟩
    | false =>
      cases e
      exact k F' H' fp' (fun _ => False) _ I' (go.mono fun q z => z.elim id False.elim) rfl fun _ => ⟨p1, p2, p3⟩
  | _ => cases e
/-! ### built-ins of one argument -/
def BI (cl : Nat → Addr) (r : List V → Hp → VK → Prop) (f : A → Option A) : Prop := ∀ ⦃F H : Hp⦄ ⦃x : V⦄ ⦃a c : A⦄ ⦃Q : VK⦄, Same F H → Rv cl F H a x → f a = some c → (∀ v, Rp cl F c v → Q v H) → r [x] H Q
theorem se_b1 {pa : Bool} {ta : TE} {ga : G} {r : List V → Hp → VK → Prop} {f : A → Option A} (hr : BI cl r f) (ha : SE cl kp pa ta ga) : SE cl kp pa (tCB r (tCons ta tNil)) (gUn f ga) :=
  se_un (r := fun x H Q => r [x] H Q) (fun F H x a c Q s ra hf k => hr s ra hf k) ha
def BN (cl : Nat → Addr) (r : List V → Hp → VK → Prop) (f : A → Option (List A)) : Prop := ∀ ⦃F H : Hp⦄ ⦃x : V⦄ ⦃a : A⦄ ⦃c : List A⦄ ⦃Q : VK⦄, Same F H → Rv cl F H a x → f a = some c → (∀ p vs, H p = none → RpL cl F c vs → Q (.ref p) (upd H p (.lst vs))) → r [x] H Q
def gUnN (f : A → Option (List A)) (ga : G) : G := fun env => (gOne ga env).bind fun p => (f p.1).map fun c => (.ow (.fl (.lst c)), p.2)
theorem se_b1N {pa : Bool} {ta : TE} {ga : G} {r : List V → Hp → VK → Prop} {f : A → Option (List A)} (hr : BN cl r f) (ha : SE cl kp pa ta ga) : SE cl kp pa (tCB r (tCons ta tNil)) (gUnN f ga) := by
  intro τ F H fp env σ Q z env' I e k
  obtain ⟨⟨a, e2⟩, e1, e⟩ := Option.bind_eq_some_iff.mp e
  obtain ⟨c, hc, e⟩ := Option.map_eq_some_iff.mp e
  cases e
  refine se_one (W := fun x H2 => r [x] H2 Q) ha I e1 fun F' H' fp' x I' go rx pu => ?_
  refine hr I'.le rx hc fun p vs n rc => k F' _ fp' (fun q => q = p) _ (I'.laid n) (go.trans (Go.laid n)) (RR.newL I' n rc) fun z => ?_
  obtain ⟨a, b, s⟩ := pu z
  exact ⟨a, b, s.trans (same_new n)⟩
/-- .. a new tuple -/
def BU (cl : Nat → Addr) (r : List V → Hp → VK → Prop) (f : A → Option (List A)) : Prop := ∀ ⦃F H : Hp⦄ ⦃x : V⦄ ⦃a : A⦄ ⦃c : List A⦄ ⦃Q : VK⦄, Same F H → Rv cl F H a x → f a = some c → (∀ p vs, H p = none → RpL cl F c vs → Q (.ref p) (upd H p (.tup vs))) → r [x] H Q
def gUnU (f : A → Option (List A)) (ga : G) : G := fun env => (gOne ga env).bind fun p => (f p.1).map fun c => (.fz (.tup c), p.2)
theorem fnone {F H : Hp} (s : Same F H) {p : Addr} (n : H p = none) : F p = none := by
  cases e : F p with
  | none => rfl
  | some u => rw [s _ _ e] at n; cases n
theorem se_b1U {pa : Bool} {ta : TE} {ga : G} {r : List V → Hp → VK → Prop} {f : A → Option (List A)} (hr : BU cl r f) (ha : SE cl kp pa ta ga) : SE cl kp pa (tCB r (tCons ta tNil)) (gUnU f ga) := by
  intro τ F H fp env σ Q z env' I e k
  obtain ⟨⟨a, e2⟩, e1, e⟩ := Option.bind_eq_some_iff.mp e
  obtain ⟨c, hc, e⟩ := Option.map_eq_some_iff.mp e
  cases e
  refine se_one (W := fun x H2 => r [x] H2 Q) ha I e1 fun F' H' fp' x I' go rx pu => ?_
  refine hr I'.le rx hc fun p vs n rc => k _ _ fp' (fun _ => False) _ (I'.laidF n) ((go.trans (Go.laidF I'.le n)).mono fun q z => z.elim id False.elim) ⟨p, vs, rfl, upd_same, RpL.same (same_new (fnone I'.le n)) rc⟩ fun z => ?_
  obtain ⟨a, b, s⟩ := pu z
  exact ⟨a, b, s.trans (same_new n)⟩
def fLen : A → Option A
  | .lst xs => some (.int xs.length) | .tup xs => some (.int xs.length) | _ => none
def fLenS : A → Option A
  | .str z => if z.length ≤ sizeLine then some (.int z.length) else none
  | _ => none
def fInt : A → Option A
  | .int i => some (.int i) | .bl k => some (.int (if k then 1 else 0)) | _ => none
def fAbs : A → Option A
  | .int i => some (.int (if i < 0 then -i else i)) | _ => none
def bls : List A → Option (List Bool)
  | [] => some []
  | .bl b :: xs => (bls xs).map (b :: ·)
  | _ :: _ => none
def fAll : A → Option A
  | .lst xs => (bls xs).map fun l => .bl (l.all id) | _ => none
def fAny : A → Option A
  | .lst xs => (bls xs).map fun l => .bl (l.any id) | _ => none
def fStrI : A → Option A
  | .int i => if i.natAbs.log2 < 1920 then some (.str (toString i)) else none
  | _ => none
theorem bi_len {K : PySem.W.Frag} : BI cl (fun xs H Q => ∃ p ys, xs = [.ref p] ∧ (SqL K H p ys ∨ SqT K H p ys) ∧ Q (.int ys.length) H) fLen := by
  intro F H x a c Q s ra hf k
  cases a with
  | lst xs => cases hf; obtain ⟨p, vs, rfl, q, r⟩ := ra; exact ⟨p, vs, rfl, .inl (SqL.of q), k _ (by rw [r.length]; rfl)⟩
  | tup xs => cases hf; obtain ⟨p, vs, rfl, q, r⟩ := ra; exact ⟨p, vs, rfl, .inr (SqT.of (s _ _ q)), k _ (by rw [r.length]; rfl)⟩
  | _ => cases hf
theorem bi_int : BI cl (fun xs H Q => (∃ i, xs = [.int i] ∧ Q (.int i) H) ∨ ∃ k, xs = [.bl k] ∧ Q (.int (if k then 1 else 0)) H) fInt := by
  intro F H x a c Q s ra hf k
  cases a with
  | int i => cases hf; cases ra; exact .inl ⟨i, rfl, k _ rfl⟩
  | bl b => cases hf; cases ra; exact .inr ⟨b, rfl, k _ rfl⟩
  | _ => cases hf
theorem RpL.bls : ∀ {F : Hp} {xs : List A} {vs : List V} {bs : List Bool}, RpL cl F xs vs → bls xs = some bs → vs = bs.map V.bl
  | _, [], _, _, h, e => by cases h; cases e; rfl
  | _, a :: xs, _, _, h, e => by
    obtain ⟨v, r, rfl, q, z⟩ := h
    cases a with
    | bl b =>
      obtain ⟨ds, hds, rfl⟩ := Option.map_eq_some_iff.mp (show (Dl.bls xs).map (b :: ·) = some _ from e)
      cases (show v = V.bl b from q)
      rw [RpL.bls z hds]
      rfl
    | _ => cases e
theorem bi_all {K : PySem.W.Frag} : BI cl (rAll K) fAll := by
  intro F H x a c Q s ra hf k
  cases a with
  | lst xs =>
    obtain ⟨l, hl, rfl⟩ := Option.map_eq_some_iff.mp hf
    obtain ⟨p, vs, rfl, q, r⟩ := ra
    rw [RpL.bls r hl] at q
    exact ⟨p, l, rfl, SqL.of q, k _ rfl⟩
  | _ => cases hf
theorem bn_list {K : PySem.W.Frag} : BN cl (fun xs H Q => ∃ p ys, xs = [.ref p] ∧ (SqL K H p ys ∨ SqT K H p ys) ∧ ∀ l, H l = none → Q (.ref l) (upd H l (.lst ys))) A.items := by
  intro F H x a c Q s ra hf k
  obtain ⟨p, vs, rfl, q, r⟩ := Rv.items (K := K) s ra hf
  exact ⟨p, vs, rfl, q, fun l hl => k l vs hl r⟩
def A.lsts : A → Option (List A)
  | .lst xs => some xs | _ => none
theorem bu_tuple {K : PySem.W.Frag} : BU cl (fun xs H Q => ∃ p ys, xs = [.ref p] ∧ ((SqL K H p ys ∧ ∀ l, H l = none → Q (.ref l) (upd H l (.tup ys))) ∨ (SqT K H p ys ∧ Q (.ref p) H))) A.lsts := by
  intro F H x a c Q s ra hf k
  cases a with
  | lst xs => cases hf; obtain ⟨p, vs, rfl, q, r⟩ := ra; exact ⟨p, vs, rfl, .inl ⟨SqL.of q, fun l hl => k l vs hl r⟩⟩
  | _ => cases hf
/-! ### isinstance with a built-in type -/
def A.tyn : A → Option String
  | .bl _ => some "bool" | .int _ => some "int" | .str _ => some "str" | .lst _ => some "list" | .tup _ => some "tuple" | .non => some "NoneType" | _ => none
def fIsI (t : String) (a : A) : Option A := a.tyn.bind fun n => (kitB n t).map .bl
theorem se_isI {K : PySem.W.Frag} {pa : Bool} {ta : TE} {ga : G} {t : String} (ha : SE cl kp pa ta ga) : SE cl kp pa (tCB (rIsi K) (tCons ta (tCons (tC (.ty t)) tNil))) (gUn (fIsI t) ga) := by
  refine se_un (r := fun x H Q => rIsi K [x, .ty t] H Q) (fun F H x a c Q s ra hf k => ?_) ha
  obtain ⟨n, hn, e⟩ := Option.bind_eq_some_iff.mp hf
  obtain ⟨b, hb, rfl⟩ := Option.map_eq_some_iff.mp e
  refine ⟨x, .ty t, .type n, _, b, rfl, .ty t, ?_, kit_ty hb, k _ rfl⟩
  cases a with
  | non => cases hn; cases ra; exact .base .non
  | bl y => cases hn; cases ra; exact .base (.bl y)
  | int y => cases hn; cases ra; exact .base (.int y)
  | str y => cases hn; cases ra; exact .base (.str y)
  | lst xs => cases hn; obtain ⟨p, vs, rfl, q, r⟩ := ra; exact .base (.lst q)
  | tup xs => cases hn; obtain ⟨p, vs, rfl, q, r⟩ := ra; exact .base (.tup (s _ _ q))
  | _ => cases hn
/-! ### list(range(..)) -/
def rgA (a b : Int) : List A := (List.range (b - a).toNat).map fun i => A.int (a + (i : Nat))
instance : ∀ i j, Decidable (RgOk i j) := fun i j => by unfold RgOk; exact inferInstance
def fRg1 : A → Option (List A)
  | .int n => if RgOk 0 n then some (rgA 0 n) else none
  | _ => none
end
end Dl
namespace Dl
open PySem PySem.Spec L2

/-! ## places -/
def Fl.own : Fl → Bool
  | .fz _ => false | _ => true
def FlO (cl : Nat → Addr) (F : Hp) : Fl → HO → Prop
  | .fz _, _ => False
  | .lst xs, o => ∃ vs, o = .lst vs ∧ RpL cl F xs vs
  | .dK ks xs, o => ∃ vs, o = .dK (ks.zip vs) ∧ ks.length = xs.length ∧ RpL cl F xs vs
  | .dT ks xs, o => ∃ vs, o = .dT (ks.zip vs) ∧ ks.length = xs.length ∧ RpL cl F xs vs
def O.flat : O → Option Fl
  | .fl f => some f | _ => none
def O.fldO (n : Str) : O → Option Fl
  | .ins _ ns fs => fld ns fs n | _ => none
def getP (env : Env) : R → Option Fl
  | .pl i => env[i]?.bind O.flat
  | .pf i n => env[i]?.bind (O.fldO n)
  | _ => none
def setFld : List Str → List Fl → Str → Fl → List Fl
  | n :: ns, f :: fs, m, x => if m == n then x :: fs else f :: setFld ns fs m x
  | _, fs, _, _ => fs
def O.putFld (n : Str) (x : Fl) : O → O
  | .ins c ns fs => .ins c ns (setFld ns fs n x) | o => o
def putP (env : Env) : R → Fl → Env
  | .pl i, x => env.set i (.fl x)
  | .pf i n, x => match env[i]? with
    | some o => env.set i (o.putFld n x)
    | none => env
  | _, _ => env
section
variable {cl : Nat → Addr} {kp : List Nat} {τ σ : L2.St} {F F' H H' : Hp} {fp : Nat → Addr → Prop} {env : Env} {S : Addr → Prop} {Eh : XK}
theorem FlR.root {f : Fl} {v : V} (h : FlR cl F H S f v) (w : f.own = true) : ∃ p o, v = .ref p ∧ S p ∧ H p = some o ∧ FlO cl F f o := by
  cases f with
  | fz a => cases w
  | lst xs => obtain ⟨p, vs, e, s, q, r⟩ := h; exact ⟨p, _, e, s, q, vs, rfl, r⟩
  | dK ks xs => obtain ⟨p, vs, e, s, q, z, r⟩ := h; exact ⟨p, _, e, s, q, vs, rfl, z, r⟩
  | dT ks xs => obtain ⟨p, vs, e, s, q, z, r⟩ := h; exact ⟨p, _, e, s, q, vs, rfl, z, r⟩
theorem FlR.of_root {f : Fl} {p : Addr} {o : HO} (s : S p) (q : H p = some o) (h : FlO cl F f o) : FlR cl F H S f (.ref p) := by
  cases f with
  | fz a => exact h.elim
  | lst xs => obtain ⟨vs, rfl, r⟩ := h; exact ⟨p, vs, rfl, s, q, r⟩
  | dK ks xs => obtain ⟨vs, rfl, z, r⟩ := h; exact ⟨p, vs, rfl, s, q, z, r⟩
  | dT ks xs => obtain ⟨vs, rfl, z, r⟩ := h; exact ⟨p, vs, rfl, s, q, z, r⟩
theorem FlO.same (s : Same F F') {f : Fl} {o : HO} (h : FlO cl F f o) : FlO cl F' f o := by
  cases f with
  | fz a => exact h
  | lst xs => obtain ⟨vs, e, r⟩ := h; exact ⟨vs, e, RpL.same s r⟩
  | dK ks xs => obtain ⟨vs, e, z, r⟩ := h; exact ⟨vs, e, z, RpL.same s r⟩
  | dT ks xs => obtain ⟨vs, e, z, r⟩ := h; exact ⟨vs, e, z, RpL.same s r⟩
theorem setFld_len : ∀ (ns : List Str) (fs : List Fl) (m : Str) (x : Fl), (setFld ns fs m x).length = fs.length
  | [], _, _, _ => rfl
  | _ :: _, [], _, _ => rfl
  | n :: ns, f :: fs, m, x => by
    unfold setFld
    split
    · rfl
    · rw [List.length_cons, setFld_len ns fs m x, List.length_cons]
theorem zip_lookup2 {f : Str} {y : Fl} : ∀ {ns : List Str} {vs : List V} {fs : List Fl} {v : V} {x : Fl}, (ns.zip vs).lookup f = some v → (ns.zip fs).lookup f = some x → ∃ j : Nat, vs[j]? = some v ∧ fs[j]? = some x ∧ setFld ns fs f y = fs.set j y
  | [], _, _, _, _, h, _ => by simp at h
  | _ :: _, [], _, _, _, h, _ => by simp at h
  | _ :: _, _ :: _, [], _, _, _, h => by simp at h
  | n :: ns, w :: vs, y' :: fs, v, x, h, g => by
    rw [List.zip_cons_cons, List.lookup_cons] at h g
    by_cases e : (f == n) = true
    · rw [e] at h g
      exact ⟨0, h, g, by unfold setFld; rw [if_pos e]; rfl⟩
    · have e' : (f == n) = false := by simpa using e
      rw [e'] at h g
      obtain ⟨j, a, b, c⟩ := zip_lookup2 h g
      exact ⟨j + 1, by simpa using a, by simpa using b, by unfold setFld; rw [if_neg e, c]; rfl⟩
theorem dom_upd {p q : Addr} {o : HO} (h : H q ≠ none) : upd H p o q ≠ none := by
  by_cases e : q = p
  · rw [e, upd_same]; exact fun z => nomatch z
  · rw [upd_ne e]; exact h
theorem nt_upd {p q : Addr} {o : HO} (ho : HOtup o = false) (h : Nt H q) : Nt (upd H p o) q := by
  by_cases e : q = p
  · rw [e]; exact Nt.new ho
  · exact h.keep (upd_ne e)
theorem FlO.nt {f : Fl} {o : HO} (h : FlO cl F f o) : HOtup o = false := by
  cases f with
  | fz a => exact h.elim
  | lst xs => obtain ⟨vs, rfl, _⟩ := h; rfl
  | dK ks xs => obtain ⟨vs, rfl, _⟩ := h; rfl
  | dT ks xs => obtain ⟨vs, rfl, _⟩ := h; rfl
theorem Go.upd {p : Addr} {o : HO} {U : Addr → Prop} (ho : HOtup o = false) (h : U p) : Go F H U F (L2.upd H p o) U :=
  ⟨Same.refl F, fun q u n e => by rw [upd_ne (fun z => n (by rw [z]; exact h))]; exact e, fun q a e => (a e).elim, fun q h => .inl h, fun q h => dom_upd h, fun q h => nt_upd ho h⟩
/-- what stands at a place may be replaced -/
theorem place_ok (I : Rs cl kp τ F H fp env σ) {r : R} {v : V} {f : Fl} (h : RR cl F H fp σ r v S) (e : getP env r = some f) (w : f.own = true) :
    ∃ p o, v = .ref p ∧ H p = some o ∧ FlO cl F f o ∧ ∀ f' o', FlO cl F f' o' → Rs cl kp τ F (upd H p o') fp (putP env r f') σ ∧ Go F H (U fp) F (upd H p o') (U fp) := by
  have le : ∀ {p : Addr} {i : Nat} {o' : HO}, fp i p → Same F (upd H p o') := fun {p i o'} hp q u e => by
    rw [upd_ne (fun z => by rw [z, I.sep i p hp] at e; cases e)]
    exact I.le _ _ e
  have slots : ∀ {p : Addr} {i : Nat} {o' : HO} {x : O}, HOtup o' = false → fp i p → (∃ v, σ[i]? = some (some v) ∧ OR cl F (upd H p o') (fp i) x v) → Rs cl kp τ F (upd H p o') fp (env.set i x) σ := fun {p i o' x} ho hp hx => by
    refine ⟨by rw [List.length_set]; exact I.len, fun j y hy => ?_, I.dis, I.sep, fun j q h => nt_upd ho (I.dom j q h), le hp, I.pro, I.tl⟩
    rcases set_at hy with ⟨rfl, rfl, _⟩ | ⟨ne, hy⟩
    · exact .inr hx
    · exact (I.slot j y hy).imp id fun ⟨v, a, b⟩ => ⟨v, a, OR.go (Same.refl F) (fun q u h e => by rw [upd_ne (fun z => ne (I.dis j i p (by rw [← z]; exact h) hp))]; exact e) b⟩
  cases r with
  | fz a => cases e
  | ow o => cases e
  | pl i =>
    obtain ⟨o, ho, e⟩ := Option.bind_eq_some_iff.mp e
    cases o with
    | un => cases e
    | ins c ns fs => cases e
    | fl f0 =>
      cases e
      obtain ⟨u, hu, q⟩ := I.at ho rfl
      have h : σ[i]? = some (some v) := h
      rw [h] at hu
      cases hu
      obtain ⟨p, o, e, s, hp, ho'⟩ := FlR.root q w
      refine ⟨p, o, e, hp, ho', fun f' o' h' => ⟨slots h'.nt s ⟨v, h, ?_⟩, Go.upd h'.nt ⟨i, s⟩⟩⟩
      rw [e]
      exact FlR.of_root s upd_same h'
  | pf i n =>
    obtain ⟨o, ho, e⟩ := Option.bind_eq_some_iff.mp e
    cases o with
    | un => cases e
    | fl f0 => cases e
    | ins c ns fs =>
      have e : (ns.zip fs).lookup n = some f := e
      obtain ⟨u, hu, q⟩ := I.at ho rfl
      obtain ⟨p', c', dx', vs', hp, hh, hl⟩ := h
      rw [hp] at hu
      cases hu
      obtain ⟨p0, dx, vs, T, e0, sp, sd, q, d, z, z', rr, t1, t2⟩ := q
      cases e0
      rw [hh] at q
      cases q
      obtain ⟨j, a, b, _⟩ := zip_lookup2 (y := f) hl e
      obtain ⟨p, o, e1, s, hp1, ho'⟩ := FlR.root (rr j f v b a) w
      have sp1 := (t1 j p s).1
      refine ⟨p, o, e1, hp1, ho', fun f' o' h' => ?_⟩
      obtain ⟨j', a', b', sf⟩ := zip_lookup2 (y := f') hl e
      have pe : putP env (.pf i n) f' = env.set i (.ins c ns (setFld ns fs n f')) := by
        show (match env[i]? with | some o => env.set i (o.putFld n f') | none => env) = _
        rw [ho]
        rfl
      rw [pe]
      obtain ⟨p2, o2, e2, s2, _, _⟩ := FlR.root (rr j' f v b' a') w
      rw [e1] at e2
      cases e2
      have ej : j' = j := t2 j' j p s2 s
      subst ej
      refine ⟨slots h'.nt sp1 ⟨.ref p', hp, p', _, vs, T, rfl, sp, sd, ?_, ?_, by rw [setFld_len]; exact z, by rw [setFld_len]; exact z', fun k f u hf hu => ?_, t1, t2⟩, Go.upd h'.nt ⟨i, sp1⟩⟩
      · rw [upd_ne (t1 j' p s).2.1.symm]; exact hh
      · rw [upd_ne (t1 j' p s).2.2.symm]; exact d
      · rw [sf] at hf
        rcases set_at hf with ⟨rfl, rfl, _⟩ | ⟨ne, hf⟩
        · rw [a] at hu
          cases hu
          rw [e1]
          exact FlR.of_root s upd_same h'
        · exact FlR.go (Same.refl F) (fun q u t e => by rw [upd_ne (fun z => ne (t2 k j' p (by rw [← z]; exact t) s))]; exact e) (rr k f u hf hu)
end

/-! ## statements -/
/-- an error that is let out: its class, its attributes -/
structure Ev where
  c : Nat
  xs : List A
/-- the attributes of the program's errors -/
def eF : Nat → List Str
  | 0 => ["size"] | 1 => ["index"] | 2 => ["word"] | 3 => ["first", "second"] | 4 => ["count"] | 5 => ["part"] | 6 => ["letter"] | 7 => ["letter", "place"] | 8 => ["limit"] | 9 => ["place"]
  | 10 => ["word"] | 11 => ["number"] | 12 => ["place"] | 13 => ["limit"] | 14 => ["first", "second"] | 17 => ["index"] | 18 => ["line"] | _ => []
/-- it stands so; the classes of errors: from 100 on -/
def ErrAt (cl : Nat → Addr) (F H : Hp) (S : Addr → Prop) (e : Ev) (cls : Value) (d : Option Addr) : Prop := cls = .ref (cl (100 + e.c)) ∧ ∃ dd vs, d = some dd ∧ S dd ∧ H dd = some (.xd ((eF e.c).zip vs).reverse) ∧ RpL cl F e.xs vs ∧ e.xs.length = (eF e.c).length
inductive Fo where
  | nx | bk | ct | rt (o : O) | er (e : Ev)
abbrev GS := Env → Option (Fo × Env)
def Fin (cl : Nat → Addr) (kp : List Nat) (Eh : XK) (τ : L2.St) (F H : Hp) (U0 : Addr → Prop) (env' : Env) (D : Ends) : Fo → Prop
  | .nx => ∀ F' H' fp' σ', Rs cl kp τ F' H' fp' env' σ' → Go F H U0 F' H' (U fp') → D.nx σ' H'
  | .bk => ∀ F' H' fp' σ', Rs cl kp τ F' H' fp' env' σ' → Go F H U0 F' H' (U fp') → D.bk σ' H'
  | .ct => ∀ F' H' fp' σ', Rs cl kp τ F' H' fp' env' σ' → Go F H U0 F' H' (U fp') → D.ct σ' H'
  | .rt o => ∀ F' H' fp' σ' S v, Rs cl kp τ F' H' fp' env' σ' → Go F H U0 F' H' (fun p => U fp' p ∨ S p) → OR cl F' H' S o v → (∀ p, S p → F' p = none ∧ Nt H' p ∧ ¬ U fp' p) → D.rt v H'
  | .er e => ∀ F' H' fp' σ' S cls d, Rs cl kp τ F' H' fp' env' σ' → Go F H U0 F' H' (fun p => U fp' p ∨ S p) → ErrAt cl F' H' S e cls d → (∀ p, S p → F' p = none ∧ Nt H' p ∧ ¬ U fp' p) → Eh cls d H'
def SS (cl : Nat → Addr) (kp : List Nat) (Eh : XK) (t : TS) (g : GS) : Prop :=
  ∀ ⦃τ : L2.St⦄ ⦃F H : Hp⦄ ⦃fp : Nat → Addr → Prop⦄ ⦃env : Env⦄ ⦃σ : L2.St⦄ ⦃D : Ends⦄ ⦃f : Fo⦄ ⦃env' : Env⦄, Rs cl kp τ F H fp env σ → g env = some (f, env') → Fin cl kp Eh τ F H (U fp) env' D f → t D σ H
theorem wipe_idx {σ : L2.St} : ∀ {vs : List Nat} {i : Nat}, (L2.wipe σ vs)[i]? = if i ∈ vs then (σ[i]?.map fun _ => none) else σ[i]?
  | [], i => by simp [L2.wipe]
  | v :: vs, i => by
    show ((L2.wipe σ vs).set v none)[i]? = _
    by_cases e : v = i
    · subst e
      rw [if_pos List.mem_cons_self]
      by_cases hl : v < σ.length
      · rw [List.getElem?_set_self (by rw [wipe_length]; exact hl), List.getElem?_eq_getElem hl]; rfl
      · rw [List.getElem?_eq_none (by rw [List.length_set, wipe_length]; omega), List.getElem?_eq_none (by omega)]; rfl
    · rw [List.getElem?_set_ne e, wipe_idx]
      by_cases m : i ∈ vs
      · rw [if_pos m, if_pos (List.mem_cons_of_mem _ m)]
      · rw [if_neg m, if_neg (fun z => (List.mem_cons.mp z).elim (fun q => e q.symm) m)]
theorem wipe_set {v : Option V} {vs : List Nat} {i : Nat} {σ : L2.St} (h : i ∈ vs) : L2.wipe (σ.set i v) vs = L2.wipe σ vs := by
  refine List.ext_getElem? fun j => ?_
  rw [wipe_idx, wipe_idx]
  by_cases m : j ∈ vs
  · rw [if_pos m, if_pos m]
    by_cases e : i = j
    · subst e
      by_cases hl : i < σ.length
      · rw [List.getElem?_set_self hl, List.getElem?_eq_getElem hl]; rfl
      · rw [List.getElem?_eq_none (by rw [List.length_set]; omega), List.getElem?_eq_none (by omega)]
    · rw [List.getElem?_set_ne e]
  · rw [if_neg m, if_neg m, List.getElem?_set_ne (fun e => m (by rw [← e]; exact h))]
theorem wipe_wipe {σ : L2.St} {vs : List Nat} : L2.wipe (L2.wipe σ vs) vs = L2.wipe σ vs := by
  refine List.ext_getElem? fun j => ?_
  rw [wipe_idx, wipe_idx]
  by_cases m : j ∈ vs
  · rw [if_pos m, if_pos m, Option.map_map]; rfl
  · rw [if_neg m, if_neg m]
def SG (cl : Nat → Addr) (kp : List Nat) (ts : List Nat) (t : TG) (h : A → Env → Option Env) : Prop :=
  ∀ ⦃τ : L2.St⦄ ⦃F H : Hp⦄ ⦃fp : Nat → Addr → Prop⦄ ⦃env : Env⦄ ⦃σ : L2.St⦄ ⦃Q : L2.St → Hp → Prop⦄ ⦃a : A⦄ ⦃v : V⦄ ⦃env' : Env⦄, Rs cl kp τ F H fp env σ → Rp cl F a v → h a env = some env' →
    (∀ σ' fp', Rs cl kp τ F H fp' env' σ' → (∀ p, U fp' p → U fp p) → (∀ vs, (∀ i ∈ ts, i ∈ vs) → L2.wipe σ' vs = L2.wipe σ vs) → Q σ' H) → t v σ H Q
def SGs (cl : Nat → Addr) (kp : List Nat) (ts : List Nat) (t : TGs) (h : List A → Env → Option Env) : Prop :=
  ∀ ⦃τ : L2.St⦄ ⦃F H : Hp⦄ ⦃fp : Nat → Addr → Prop⦄ ⦃env : Env⦄ ⦃σ : L2.St⦄ ⦃Q : L2.St → Hp → Prop⦄ ⦃as : List A⦄ ⦃vs : List V⦄ ⦃env' : Env⦄, Rs cl kp τ F H fp env σ → RpL cl F as vs → h as env = some env' →
    (∀ σ' fp', Rs cl kp τ F H fp' env' σ' → (∀ p, U fp' p → U fp p) → (∀ vs, (∀ i ∈ ts, i ∈ vs) → L2.wipe σ' vs = L2.wipe σ vs) → Q σ' H) → t vs σ H Q
section
variable {cl : Nat → Addr} {kp : List Nat} {τ σ : L2.St} {F F' H H' : Hp} {fp : Nat → Addr → Prop} {env : Env} {S : Addr → Prop} {Eh : XK}
theorem Fin.go {U0 U1 : Addr → Prop} {F1 H1 : Hp} {env' : Env} {D : Ends} {f : Fo} (a : Go F H U0 F1 H1 U1) (h : Fin cl kp Eh τ F H U0 env' D f) : Fin cl kp Eh τ F1 H1 U1 env' D f := by
  cases f with
  | nx => exact fun F' H' fp' σ' I go => h F' H' fp' σ' I (a.trans go)
  | bk => exact fun F' H' fp' σ' I go => h F' H' fp' σ' I (a.trans go)
  | ct => exact fun F' H' fp' σ' I go => h F' H' fp' σ' I (a.trans go)
  | rt o => exact fun F' H' fp' σ' S v I go => h F' H' fp' σ' S v I (a.trans go)
  | er e => exact fun F' H' fp' σ' S cls d I go => h F' H' fp' σ' S cls d I (a.trans go)
def gSkip : GS := fun env => some (.nx, env)
theorem ss_nil : SS cl kp Eh tNext gSkip := by
  intro τ F H fp env σ D f env' I e k
  cases e
  exact k F H fp σ I Go.refl
def gSeq (g h : GS) : GS := fun env => (g env).bind fun p => match p.1 with
  | .nx => h p.2
  | f => some (f, p.2)
theorem ss_seq {t u : TS} {g h : GS} (a : SS cl kp Eh t g) (b : SS cl kp Eh u h) : SS cl kp Eh (tSeq t u) (gSeq g h) := by
  intro τ F H fp env σ D f env' I e k
  obtain ⟨⟨f1, e1⟩, h1, e⟩ := Option.bind_eq_some_iff.mp e
  refine a I h1 ?_
  cases f1 with
  | nx => exact fun F1 H1 fp1 σ1 I1 go1 => b I1 e (k.go go1)
  | bk => cases e; exact k
  | ct => cases e; exact k
  | rt o => cases e; exact k
  | er x => cases e; exact k
def gBrk : GS := fun env => some (.bk, env)
def gCnt : GS := fun env => some (.ct, env)
def gNever : GS := fun _ => none
theorem ss_never : SS cl kp Eh tNever gNever := by
  intro τ F H fp env σ D f env' I e k
  cases e
def gDo (g : G) : GS := fun env => (g env).map fun p => (.nx, p.2)
theorem ss_expr {pu : Bool} {t : TE} {g : G} (h : SE cl kp pu t g) : SS cl kp Eh (tDrop t) (gDo g) := by
  intro τ F H fp env σ D f env' I e k
  obtain ⟨⟨r, e1⟩, h1, z⟩ := Option.map_eq_some_iff.mp e
  cases z
  exact h I h1 fun F1 H1 fp1 S v I1 go rr _ => k F1 H1 fp1 σ I1 (go.mono fun p z => .inl z)
/-- a slot gets a new thing -/
theorem Rs.put (I : Rs cl kp τ F H fp env σ) {i : Nat} (hi : i ∉ kp) {o : O} {v : V} (h : OR cl F H S o v) (n : ∀ p, S p → F p = none ∧ Nt H p ∧ ¬ U fp p) :
    Rs cl kp τ F H (fun j p => if j = i then S p else fp j p) (env.set i o) (σ.set i (some v)) := by
  refine ⟨by rw [List.length_set, List.length_set]; exact I.len, fun j x hx => ?_, fun j k p a b => ?_, fun j p a => ?_, fun j p a => ?_, I.le, fun j hj => ?_, by rw [List.length_set]; exact I.tl⟩
  · rcases set_at hx with ⟨rfl, rfl, hl⟩ | ⟨ne, hx⟩
    · exact .inr ⟨v, List.getElem?_set_self (by rw [← I.len]; exact hl), OR.sub (fun p s => by rw [if_pos rfl]; exact s) h⟩
    · rw [List.getElem?_set_ne (fun z => ne z.symm)]
      exact (I.slot j x hx).imp id fun ⟨v, a, b⟩ => ⟨v, a, OR.sub (fun p s => by rw [if_neg ne]; exact s) b⟩
  · have a : if j = i then S p else fp j p := a
    have b : if k = i then S p else fp k p := b
    by_cases c1 : j = i <;> by_cases c2 : k = i
    · exact c1.trans c2.symm
    · rw [if_pos c1] at a; rw [if_neg c2] at b; exact ((n p a).2.2 ⟨k, b⟩).elim
    · rw [if_neg c1] at a; rw [if_pos c2] at b; exact ((n p b).2.2 ⟨j, a⟩).elim
    · rw [if_neg c1] at a; rw [if_neg c2] at b; exact I.dis j k p a b
  · have a : if j = i then S p else fp j p := a
    by_cases c : j = i
    · rw [if_pos c] at a; exact (n p a).1
    · rw [if_neg c] at a; exact I.sep j p a
  · have a : if j = i then S p else fp j p := a
    by_cases c : j = i
    · rw [if_pos c] at a; exact (n p a).2.1
    · rw [if_neg c] at a; exact I.dom j p a
  · rw [List.getElem?_set_ne (fun z => hi (by rw [z]; exact hj))]
    exact I.pro j hj
theorem Rs.putF (I : Rs cl kp τ F H fp env σ) {i : Nat} (hi : i ∉ kp) {a : A} {v : V} (h : Rp cl F a v) :
    Rs cl kp τ F H (fun j p => if j = i then False else fp j p) (env.set i (.fl (.fz a))) (σ.set i (some v)) := I.put (S := fun _ => False) hi (o := .fl (.fz a)) h fun p z => z.elim
theorem offSub {i : Nat} (p : Addr) (h : U (fun j p => if j = i then False else fp j p) p) : U fp p := by
  obtain ⟨j, h⟩ := h
  have h : if j = i then False else fp j p := h
  by_cases c : j = i
  · rw [if_pos c] at h; exact h.elim
  · rw [if_neg c] at h; exact ⟨j, h⟩
def gAsg (i : Nat) (g : G) : GS := fun env => (g env).bind fun p => match p.1 with
  | .ow o => some (.nx, p.2.set i o)
  | r => (r.settle false p.2).map fun q => (.nx, q.2.set i (.fl (.fz q.1)))
theorem ss_asg {pu : Bool} {i : Nat} {t : TE} {g : G} (hi : i ∉ kp) (h : SE cl kp pu t g) : SS cl kp Eh (tAsg t (gName i)) (gAsg i g) := by
  intro τ F H fp env σ D f env' I e k
  obtain ⟨⟨r, e1⟩, h1, e⟩ := Option.bind_eq_some_iff.mp e
  refine h I h1 fun F1 H1 fp1 S v I1 go rr _ => ?_
  have go' := go.mono (V' := U fp1) fun p z => .inl z
  show D.nx (σ.set i (some v)) H1
  cases r with
  | ow o =>
    cases e
    refine k F1 H1 _ _ (I1.put hi rr.1 rr.2) (go.mono fun p ⟨j, z⟩ => ?_)
    simp only at z
    by_cases c : j = i
    · rw [if_pos c] at z; exact .inr z
    · rw [if_neg c] at z; exact .inl ⟨j, z⟩
  | fz a =>
    cases e
    exact k F1 H1 _ _ (I1.putF hi rr) (go'.mono offSub)
  | pf j n => cases e
  | pl j =>
    obtain ⟨⟨a, e2⟩, h2, z⟩ := Option.map_eq_some_iff.mp e
    cases z
    obtain ⟨o, ho, h2⟩ := Option.bind_eq_some_iff.mp (show (e1[j]?.bind fun o => o.vw.map fun a => (a, e1.set j (.fl (.fz a)))) = some (a, e2) from h2)
    obtain ⟨b, w, z⟩ := Option.map_eq_some_iff.mp h2
    cases z
    obtain ⟨I2, go2, rp⟩ := I1.freeze ho w rr
    exact k _ _ _ _ (I2.putF hi rp) ((go'.trans go2).mono offSub)
/-- return e -/
def gRet (np : Nat) (g : G) : GS := fun env => (g env).bind fun p => match p.1 with
  | .ow o => some (.rt o, p.2)
  | .fz a => some (.rt (.fl (.fz a)), p.2)
  | .pl i => if i < np then none else p.2[i]?.map fun o => (.rt o, p.2.set i .un)
  | .pf _ _ => none
theorem ss_ret {pu : Bool} {np : Nat} {t : TE} {g : G} (h : SE cl kp pu t g) : SS cl kp Eh (tRet t) (gRet np g) := by
  intro τ F H fp env σ D f env' I e k
  obtain ⟨⟨r, e1⟩, h1, e⟩ := Option.bind_eq_some_iff.mp e
  refine h I h1 fun F1 H1 fp1 S v I1 go rr _ => ?_
  have go' := go.mono (V' := U fp1) fun p z => .inl z
  cases r with
  | ow o => cases e; exact k F1 H1 fp1 σ S v I1 go rr.1 rr.2
  | fz a => cases e; exact k F1 H1 fp1 σ (fun _ => False) v I1 (go'.mono fun p z => z.elim id False.elim) rr fun p z => z.elim
  | pf j n => cases e
  | pl i =>
    by_cases c : i < np
    · simp only [if_pos c] at e; cases e
    · simp only [if_neg c] at e
      obtain ⟨o, ho, z⟩ := Option.map_eq_some_iff.mp e
      cases z
      rcases I1.slot i o ho with z | ⟨u, hu, q⟩
      · subst z
        refine k F1 H1 fp1 σ (fun _ => False) v ?_ (go'.mono fun p z => z.elim id False.elim) trivial fun p z => z.elim
        refine ⟨by rw [List.length_set]; exact I1.len, fun j x hx => ?_, I1.dis, I1.sep, I1.dom, I1.le, I1.pro, I1.tl⟩
        rcases set_at hx with ⟨rfl, rfl, _⟩ | ⟨ne, hx⟩
        · exact .inl rfl
        · exact I1.slot j x hx
      · have rr : σ[i]? = some (some v) := rr
        rw [rr] at hu
        cases hu
        refine k F1 H1 (fpOff fp1 i) σ (fp1 i) v ?_ (go'.mono fun p z => z.elim (fun ⟨j, h⟩ => ⟨j, h.2⟩) fun h => ⟨i, h⟩) q fun p h => ⟨I1.sep i p h, I1.dom i p h, fun ⟨j, h'⟩ => h'.1 (I1.dis j i p h'.2 h)⟩
        refine ⟨by rw [List.length_set]; exact I1.len, fun j x hx => ?_, fun j k p a b => I1.dis j k p a.2 b.2, fun j p a => I1.sep j p a.2, fun j p a => I1.dom j p a.2, I1.le, I1.pro, I1.tl⟩
        rcases set_at hx with ⟨rfl, rfl, _⟩ | ⟨ne, hx⟩
        · exact .inl rfl
        · exact (I1.slot j x hx).imp id fun ⟨v, a, b⟩ => ⟨v, a, OR.sub (fun p h => ⟨ne, h⟩) b⟩
def gRetN : GS := fun env => some (.rt (.fl (.fz .non)), env)
def gIfS (c : Env → Option (Bool × Env)) (g h : GS) : GS := fun env => (c env).bind fun p => if p.1 then g p.2 else h p.2
theorem ss_if {pc : Bool} {c : TT} {t u : TS} {gc : Env → Option (Bool × Env)} {g h : GS} (hc : ST cl kp pc c gc) (ha : SS cl kp Eh t g) (hb : SS cl kp Eh u h) : SS cl kp Eh (tIfS c t u) (gIfS gc g h) := by
  intro τ F H fp env σ D f env' I e k
  obtain ⟨⟨c, e1⟩, h1, e⟩ := Option.bind_eq_some_iff.mp e
  refine hc I h1 fun F1 H1 fp1 I1 go1 pu1 => ?_
  cases c with
  | true => exact ha I1 e (k.go go1)
  | false => exact hb I1 e (k.go go1)
/-! ### targets -/
def hName (i : Nat) : A → Env → Option Env := fun a env => some (env.set i (.fl (.fz a)))
theorem sg_name {i : Nat} (hi : i ∉ kp) : SG cl kp [i] (gName i) (hName i) := by
  intro τ F H fp env σ Q a v env' I r e k
  cases e
  exact k _ _ (I.putF hi r) offSub fun vs m => wipe_set (m i List.mem_cons_self)
def hNil : List A → Env → Option Env
  | [], env => some env
  | _, _ => none
def hCons (h : A → Env → Option Env) (hs : List A → Env → Option Env) : List A → Env → Option Env
  | a :: as, env => (h a env).bind (hs as)
  | _, _ => none
def hTup (n : Nat) (hs : List A → Env → Option Env) : A → Env → Option Env
  | .tup l, env => if l.length = n then hs l env else none
  | _, _ => none
theorem sgs_nil : SGs cl kp [] L2.gNil hNil := by
  intro τ F H fp env σ Q as vs env' I r e k
  cases as with
  | nil => cases e; cases r; exact ⟨rfl, k σ fp I (fun _ h => h) fun _ _ => rfl⟩
  | cons a as => cases e
theorem sgs_cons {ts us : List Nat} {t : TG} {u : TGs} {h : A → Env → Option Env} {hs : List A → Env → Option Env} (ha : SG cl kp ts t h) (hb : SGs cl kp us u hs) : SGs cl kp (ts ++ us) (L2.gCons t u) (hCons h hs) := by
  intro τ F H fp env σ Q as vs env' I r e k
  cases as with
  | nil => cases e
  | cons a as =>
    obtain ⟨v, us, rfl, r1, r2⟩ := r
    obtain ⟨e1, h1, e⟩ := Option.bind_eq_some_iff.mp (show (h a env).bind (hs as) = some env' from e)
    exact ⟨v, us, rfl, ha I r1 h1 fun σ1 fp1 I1 s1 w1 => hb I1 r2 e fun σ2 fp2 I2 s2 w2 => k σ2 fp2 I2 (fun p z => s1 p (s2 p z)) fun vs m => (w2 vs fun i h => m i (List.mem_append_right _ h)).trans (w1 vs fun i h => m i (List.mem_append_left _ h))⟩
theorem sg_tup {ts : List Nat} {K : PySem.W.Frag} {n : Nat} {t : TGs} {hs : List A → Env → Option Env} (h : SGs cl kp ts t hs) : SG cl kp ts (L2.gTup K n t) (hTup n hs) := by
  intro τ F H fp env σ Q a v env' I r e k
  cases a with
  | tup l =>
    by_cases c : l.length = n
    · rw [show hTup n hs (.tup l) env = hs l env from if_pos c] at e
      obtain ⟨p, vs, rfl, q, r⟩ := r
      exact ⟨p, vs, rfl, SqT.of (I.le _ _ q), by rw [r.length]; exact c, h I r e k⟩
    · rw [show hTup n hs (.tup l) env = none from if_neg c] at e
      cases e
  | _ => cases e
/-- a, b = e -/
def gAsgT (h : A → Env → Option Env) (g : Env → Option (A × Env)) : GS := fun env => (g env).bind fun p => (h p.1 p.2).map fun e => (.nx, e)
/-! ### what is walked -/
/-- one turn: a known thing, a new tuple, a tuple that is taken in -/
def Turn (cl : Nat → Addr) (F H : Hp) (a : A) (x : V) (H' : Hp) : Prop := (H' = H ∧ Rp cl F a x) ∨ (∃ T vs l, a = .tup l ∧ x = .ref T ∧ H T = none ∧ H' = upd H T (.tup vs) ∧ RpL cl F l vs) ∨ (H' = H ∧ ∃ q vs l, a = .tup l ∧ x = .ref q ∧ H q = some (.tup vs) ∧ RpL cl F l vs)
def WalkD (cl : Nat → Addr) (F : Hp) (J : It) (xs : List A) : Prop := ∃ G Y, Walk J xs.length G Y ∧ (∀ H, Same F H → G H) ∧ ∀ (i : Nat) H x H', i < xs.length → Same F H → Y i H x H' → ∃ a, xs[i]? = some a ∧ Turn cl F H a x H'
def SI (cl : Nat → Addr) (kp : List Nat) (wi : TI) (g : Env → Option (List A × Env)) : Prop :=
  ∀ ⦃τ : L2.St⦄ ⦃F H : Hp⦄ ⦃fp : Nat → Addr → Prop⦄ ⦃env : Env⦄ ⦃σ : L2.St⦄ ⦃Q : It → Hp → Prop⦄ ⦃xs : List A⦄ ⦃env' : Env⦄, Rs cl kp τ F H fp env σ → g env = some (xs, env') →
    (∀ F' H' fp' J, Rs cl kp τ F' H' fp' env' σ → Go F H (U fp) F' H' (U fp') → WalkD cl F' J xs → Q J H') → wi σ H Q
/-- a tuple is taken in -/
theorem Rs.adopt (I : Rs cl kp τ F H fp env σ) {q : Addr} {vs : List V} {l : List A} (h : H q = some (.tup vs)) (r : RpL cl F l vs) : ∃ F1, Rs cl kp τ F1 H fp env σ ∧ Go F H (U fp) F1 H (U fp) ∧ Rp cl F1 (.tup l) (.ref q) := by
  cases e : F q with
  | some o =>
    have := I.le _ _ e
    rw [h] at this
    cases this
    exact ⟨F, I, Go.refl, q, vs, rfl, e, r⟩
  | none =>
    have le := same_new (o := .tup vs) e
    refine ⟨upd F q (.tup vs), ⟨I.len, fun i x hx => (I.slot i x hx).imp id fun ⟨v, a, b⟩ => ⟨v, a, OR.go le (fun _ _ _ z => z) b⟩, I.dis, fun i p hp => ?_, I.dom, fun p o e1 => ?_, I.pro, I.tl⟩, ⟨le, fun _ _ _ z => z, fun p a b => ?_, fun p hp => .inl hp, fun _ z => z, fun _ z => z⟩, q, vs, rfl, upd_same, RpL.same le r⟩
    · rw [upd_ne fun z => (I.dom i p hp).no (by rw [z]; exact h)]
      exact I.sep i p hp
    · by_cases c : p = q
      · rw [c, upd_same] at e1; rw [c, h]; exact e1
      · rw [upd_ne c] at e1; exact I.le _ _ e1
    · by_cases c : p = q
      · exact .inr (.inr ⟨vs, by rw [c]; exact h⟩)
      · rw [upd_ne c] at a; exact (a b).elim
/-- one turn's item -/
theorem turn_ok {F0 : Hp} {J : It} {xs : List A} (I : Rs cl kp τ F H fp env σ) (s : Same F0 F) {i : Nat} {x : V} {a : A} (ha : xs[i]? = some a) (h : Turn cl F0 H a x H') :
    ∃ F1, Rs cl kp τ F1 H' fp env σ ∧ Go F H (U fp) F1 H' (U fp) ∧ Rp cl F1 a x ∧ Same H H' := by
  rcases h with ⟨rfl, r⟩ | ⟨T, vs, l, rfl, rfl, n, rfl, r⟩ | ⟨rfl, q, vs, l, rfl, rfl, h, r⟩
  · exact ⟨F, I, Go.refl, Rp.same s r, Same.refl _⟩
  · exact ⟨_, I.laidF n, Go.laidF I.le n, ⟨T, vs, rfl, upd_same, RpL.same (s.trans (same_new (fnone I.le n))) r⟩, same_new n⟩
  · obtain ⟨F1, a, b, c⟩ := I.adopt h (RpL.same s r)
    exact ⟨F1, a, b, c, Same.refl _⟩
def loopG (h : A → Env → Option Env) (b : GS) : List A → GS
  | [], env => some (.nx, env)
  | x :: xs, env => (h x env).bind fun e1 => (b e1).bind fun p => match p.1 with
    | .nx => loopG h b xs p.2
    | .ct => loopG h b xs p.2
    | .bk => some (.nx, p.2)
    | .rt o => some (.rt o, p.2)
    | .er x => some (.er x, p.2)
def gFor (it : Env → Option (List A × Env)) (h : A → Env → Option Env) (b : GS) : GS := fun env => (it env).bind fun p => loopG h b p.1 p.2
/-- a known walk -/
def iK (J : It) : TI := fun _ H R => R J H
theorem for_core {ts : List Nat} {tg : TG} {tb : TS} {h : A → Env → Option Env} {b : GS} (hg : SG cl kp ts tg h) (hb : SS cl kp Eh tb b) {F1 H1 : Hp} {fp1 : Nat → Addr → Prop} {e1 env' : Env} {J : It} {xs : List A} {f : Fo} {D : Ends} (I1 : Rs cl kp τ F1 H1 fp1 e1 σ)
    (wk : WalkD cl F1 J xs) (e : loopG h b xs e1 = some (f, env')) (k : Fin cl kp Eh τ F1 H1 (U fp1) env' D f) : tFor (iK J) tg tb D σ H1 := by
  obtain ⟨G, Y, w, wG, wY⟩ := wk
  refine for_it w (fun i σ' H' => ∃ F' fp' ei, Rs cl kp τ F' H' fp' ei σ' ∧ Go F1 H1 (U fp1) F' H' (U fp') ∧ loopG h b (xs.drop i) ei = some (f, env')) ⟨F1, fp1, e1, I1, Go.refl, e⟩ ?_ ?_ ?_
  · rintro i σ' H' _ ⟨F', fp', ei, I', go', _⟩
    exact wG H' (go'.sF.trans I'.le)
  · rintro i x σ' H' H2 hi' ⟨F', fp', ei, I', go', le⟩ y
    obtain ⟨a, ha, hx⟩ := wY i H' x H2 hi' (go'.sF.trans I'.le) y
    obtain ⟨F2, I2, go2, r2, _⟩ := turn_ok (J := J) I' go'.sF ha hx
    have go2 := go'.trans go2
    have hd : xs.drop i = a :: xs.drop (i + 1) := by
      rw [List.drop_eq_getElem_cons hi']
      congr 1
      exact Option.some.inj ((List.getElem?_eq_getElem hi').symm.trans ha)
    rw [hd] at le
    obtain ⟨e2, he2, le⟩ := Option.bind_eq_some_iff.mp (show ((h a ei).bind fun e1 => (b e1).bind fun p => match p.1 with
      | .nx => loopG h b (xs.drop (i + 1)) p.2
      | .ct => loopG h b (xs.drop (i + 1)) p.2
      | .bk => some (.nx, p.2)
      | .rt o => some (.rt o, p.2)
      | .er x => some (.er x, p.2)) = some (f, env') from le)
    obtain ⟨⟨f3, e3⟩, he3, le⟩ := Option.bind_eq_some_iff.mp le
    refine hg I2 r2 he2 fun σ3 fp3 I3 s3 _ => ?_
    have go3 := go2.mono s3
    refine hb I3 he3 ?_
    cases f3 with
    | nx => exact fun F4 H4 fp4 σ4 I4 go4 => ⟨F4, fp4, e3, I4, go3.trans go4, le⟩
    | ct => exact fun F4 H4 fp4 σ4 I4 go4 => ⟨F4, fp4, e3, I4, go3.trans go4, le⟩
    | bk => cases le; exact fun F4 H4 fp4 σ4 I4 go4 => k F4 H4 fp4 σ4 I4 (go3.trans go4)
    | rt o => cases le; exact fun F4 H4 fp4 σ4 S v I4 go4 => k F4 H4 fp4 σ4 S v I4 (go3.trans go4)
    | er x => cases le; exact fun F4 H4 fp4 σ4 S cls d I4 go4 => k F4 H4 fp4 σ4 S cls d I4 (go3.trans go4)
  · rintro σ' H' ⟨F', fp', ei, I', go', le⟩
    rw [List.drop_length] at le
    cases le
    exact k F' H' fp' σ' I' go'
theorem ss_for {ts : List Nat} {wi : TI} {tg : TG} {tb : TS} {it : Env → Option (List A × Env)} {h : A → Env → Option Env} {b : GS} (hi : SI cl kp wi it) (hg : SG cl kp ts tg h) (hb : SS cl kp Eh tb b) : SS cl kp Eh (tFor wi tg tb) (gFor it h b) := by
  intro τ F H fp env σ D f env' I e k
  obtain ⟨⟨xs, e1⟩, h1, e⟩ := Option.bind_eq_some_iff.mp e
  exact hi I h1 fun F1 H1 fp1 J I1 go1 wk => for_core hg hb I1 wk e (k.go go1)
/-! ### while -/
def whileG (c : Env → Option (Bool × Env)) (b : GS) : Nat → GS
  | 0, _ => none
  | n + 1, env => (c env).bind fun p => if p.1 then (b p.2).bind fun q => match q.1 with
      | .nx => whileG c b n q.2
      | .ct => whileG c b n q.2
      | .bk => some (.nx, q.2)
      | .rt o => some (.rt o, q.2)
      | .er x => some (.er x, q.2)
    else some (.nx, p.2)
open Classical in
noncomputable def gWhile (c : Env → Option (Bool × Env)) (b : GS) : GS := fun env => if h : ∃ r n, whileG c b n env = some r then some (choose h) else none
theorem whileG_more {c : Env → Option (Bool × Env)} {b : GS} : ∀ {n m : Nat} {env : Env} {r : Fo × Env}, whileG c b n env = some r → n ≤ m → whileG c b m env = some r
  | 0, _, _, _, e, _ => by cases e
  | n + 1, 0, _, _, _, h => by omega
  | n + 1, m + 1, env, r, e, h => by
    unfold whileG at e ⊢
    obtain ⟨⟨d, e1⟩, h1, e⟩ := Option.bind_eq_some_iff.mp e
    refine Option.bind_eq_some_iff.mpr ⟨_, h1, ?_⟩
    cases d with
    | false => exact e
    | true =>
      simp only [if_true] at e ⊢
      obtain ⟨⟨f, e2⟩, h2, e⟩ := Option.bind_eq_some_iff.mp e
      refine Option.bind_eq_some_iff.mpr ⟨_, h2, ?_⟩
      cases f with
      | nx => exact whileG_more (m := m) e (by omega)
      | ct => exact whileG_more (m := m) e (by omega)
      | bk => exact e
      | rt o => exact e
      | er x => exact e
theorem gWhile_of {c : Env → Option (Bool × Env)} {b : GS} {n : Nat} {env : Env} {r : Fo × Env} (e : whileG c b n env = some r) : gWhile c b env = some r := by
  have h : ∃ r n, whileG c b n env = some r := ⟨r, n, e⟩
  unfold gWhile
  rw [dif_pos h]
  obtain ⟨m, hm⟩ := Classical.choose_spec h
  congr 1
  rcases Nat.le_total n m with z | z
  · exact Option.some.inj (hm.symm.trans (whileG_more e z))
  · exact Option.some.inj ((whileG_more hm z).symm.trans e)
theorem gWhile_fuel {c : Env → Option (Bool × Env)} {b : GS} {env : Env} {r : Fo × Env} (e : gWhile c b env = some r) : ∃ n, whileG c b n env = some r := by
  unfold gWhile at e
  split at e
  · rename_i h
    cases e
    exact Classical.choose_spec h
  · cases e
theorem ss_while {pc : Bool} {c : TT} {tb : TS} {gc : Env → Option (Bool × Env)} {b : GS} (hc : ST cl kp pc c gc) (hb : SS cl kp Eh tb b) : SS cl kp Eh (tWhile c tb) (gWhile gc b) := by
  intro τ F H fp env σ D f env' I e k
  obtain ⟨n, e⟩ := gWhile_fuel e
  refine ⟨fun m σ' H' => ∃ F' fp' ei, Rs cl kp τ F' H' fp' ei σ' ∧ Go F H (U fp) F' H' (U fp') ∧ whileG gc b m ei = some (f, env'), ⟨n, F, fp, env, I, Go.refl, e⟩, ?_⟩
  rintro m σ' H' ⟨F', fp', ei, I', go', e⟩
  cases m with
  | zero => cases e
  | succ m =>
    unfold whileG at e
    obtain ⟨⟨d, e1⟩, h1, e⟩ := Option.bind_eq_some_iff.mp e
    refine hc I' h1 fun F1 H1 fp1 I1 go1 _ => ?_
    have go1 := go'.trans go1
    cases d with
    | false => cases e; exact k F1 H1 fp1 σ' I1 go1
    | true =>
      simp only [if_true] at e
      obtain ⟨⟨f2, e2⟩, h2, e⟩ := Option.bind_eq_some_iff.mp e
      refine ⟨fun σ3 H3 => ∃ F' fp' ei, Rs cl kp τ F' H3 fp' ei σ3 ∧ Go F H (U fp) F' H3 (U fp') ∧ whileG gc b m ei = some (f, env'), fun σ3 H3 h => ⟨m, Nat.lt_succ_self m, h⟩, hb I1 h2 ?_⟩
      cases f2 with
      | nx => exact fun F4 H4 fp4 σ4 I4 go4 => ⟨F4, fp4, e2, I4, go1.trans go4, e⟩
      | ct => exact fun F4 H4 fp4 σ4 I4 go4 => ⟨F4, fp4, e2, I4, go1.trans go4, e⟩
      | bk => cases e; exact fun F4 H4 fp4 σ4 I4 go4 => k F4 H4 fp4 σ4 I4 (go1.trans go4)
      | rt o => cases e; exact fun F4 H4 fp4 σ4 S v I4 go4 => k F4 H4 fp4 σ4 S v I4 (go1.trans go4)
      | er x => cases e; exact fun F4 H4 fp4 σ4 S cls d I4 go4 => k F4 H4 fp4 σ4 S cls d I4 (go1.trans go4)
end
end Dl
namespace Dl
open PySem PySem.Spec L2

/-! ## what is walked -/
def rg1 (j : Int) : List A := (List.range j.toNat).map fun i => A.int (i : Nat)
def rg2 (i j : Int) : List A := (List.range (j - i).toNat).map fun k => A.int (i + (k : Nat))
def enumA (xs : List A) : List A := xs.zipIdx.map fun p => .tup [.int (p.2 : Nat), p.1]
def zipA (xs ys : List A) : List A := (xs.zip ys).map fun p => .tup [p.1, p.2]
def strA (z : Str) : List A := z.cps.toList.map fun c => .str ⟨#[c]⟩
def gItL (g : Env → Option (A × Env)) : Env → Option (List A × Env) := fun env => (g env).bind fun p => p.1.lsts.map fun xs => (xs, p.2)
def A.tups : A → Option (List A)
  | .tup xs => some xs | _ => none
def gItT (g : Env → Option (A × Env)) : Env → Option (List A × Env) := fun env => (g env).bind fun p => p.1.tups.map fun xs => (xs, p.2)
def A.int? : A → Option Int
  | .int i => some i | _ => none
def A.str? : A → Option Str
  | .str i => some i | _ => none
def gItR1 (g : G) : Env → Option (List A × Env) := fun env => (gOne g env).bind fun p => p.1.int?.bind fun j => if -(2 ^ 62) ≤ j ∧ j < 2 ^ 62 then some (rg1 j, p.2) else none
def gItR2 (pb : Bool) (g h : G) : Env → Option (List A × Env) := fun env => (gTwo pb g h env).bind fun p => p.1.int?.bind fun i => p.2.1.int?.bind fun j => if -(2 ^ 62) ≤ i ∧ i < 2 ^ 62 ∧ -(2 ^ 62) ≤ j ∧ j < 2 ^ 62 then some (rg2 i j, p.2.2) else none
def gItS (g : G) : Env → Option (List A × Env) := fun env => (gOne g env).bind fun p => p.1.str?.map fun z => (strA z, p.2)
def gItE (g : Env → Option (A × Env)) : Env → Option (List A × Env) := fun env => (g env).bind fun p => p.1.lsts.map fun xs => (enumA xs, p.2)
def gItET (g : Env → Option (A × Env)) : Env → Option (List A × Env) := fun env => (g env).bind fun p => p.1.tups.map fun xs => (enumA xs, p.2)
def gItZ (g h : Env → Option (A × Env)) : Env → Option (List A × Env) := fun env => (g env).bind fun p => (h p.2).bind fun q => p.1.lsts.bind fun xs => q.1.lsts.map fun ys => (zipA xs ys, q.2)
section
variable {cl : Nat → Addr} {kp : List Nat} {τ σ : L2.St} {F F' H H' : Hp} {fp : Nat → Addr → Prop} {env : Env} {S : Addr → Prop} {K : PySem.W.Frag}
theorem walkd_at {J : It} {G : Hp → Prop} {xs : List A} {vs : List V} (w : Walk J vs.length G (YAt vs)) (r : RpL cl F xs vs) (hG : ∀ H, Same F H → G H) : WalkD cl F J xs := by
  refine ⟨G, YAt vs, by rw [← r.length]; exact w, hG, fun i H x H' hi _ ⟨e, hx⟩ => ?_⟩
  obtain ⟨a, ha, ra⟩ := r.at' hx
  exact ⟨a, ha, .inl ⟨e, ra⟩⟩
theorem lsts_inv {a : A} {xs : List A} (e : a.lsts = some xs) : a = .lst xs := by cases a <;> cases e <;> rfl
theorem tups_inv {a : A} {xs : List A} (e : a.tups = some xs) : a = .tup xs := by cases a <;> cases e <;> rfl
theorem int?_inv {a : A} {i : Int} (e : a.int? = some i) : a = .int i := by cases a <;> cases e <;> rfl
theorem si_list {pu : Bool} {t : TE} {g : Env → Option (A × Env)} (h : SF cl kp pu t g) : SI cl kp (iList K t) (gItL g) := by
  intro τ F H fp env σ Q xs env' I e k
  obtain ⟨⟨a, e1⟩, h1, e⟩ := Option.bind_eq_some_iff.mp e
  obtain ⟨l, hl, z⟩ := Option.map_eq_some_iff.mp e
  cases z
  refine h I h1 fun F1 H1 fp1 v I1 go r _ => ?_
  cases lsts_inv hl
  obtain ⟨p, vs, rfl, q, r⟩ := r
  exact ⟨p, rfl, ⟨vs, SqL.of (I1.le _ _ q)⟩, k F1 H1 fp1 _ I1 go (walkd_at walk_list r fun H s => SqL.of (s _ _ q))⟩
theorem si_tup {pu : Bool} {t : TE} {g : Env → Option (A × Env)} (h : SF cl kp pu t g) : SI cl kp (iTup K t) (gItT g) := by
  intro τ F H fp env σ Q xs env' I e k
  obtain ⟨⟨a, e1⟩, h1, e⟩ := Option.bind_eq_some_iff.mp e
  obtain ⟨l, hl, z⟩ := Option.map_eq_some_iff.mp e
  cases z
  refine h I h1 fun F1 H1 fp1 v I1 go r _ => ?_
  cases tups_inv hl
  obtain ⟨p, vs, rfl, q, r⟩ := r
  exact ⟨p, rfl, ⟨vs, SqT.of (I1.le _ _ q)⟩, k F1 H1 fp1 _ I1 go (walkd_at walk_tup r fun H s => SqT.of (s _ _ q))⟩
theorem si_range1 {pu : Bool} {t : TE} {g : G} (h : SE cl kp pu t g) : SI cl kp (iRng1 (tCons t tNil)) (gItR1 g) := by
  intro τ F H fp env σ Q xs env' I e k
  obtain ⟨⟨a, e1⟩, h1, e⟩ := Option.bind_eq_some_iff.mp e
  obtain ⟨j, hj, e⟩ := Option.bind_eq_some_iff.mp e
  split at e
  · rename_i c
    cases e
    refine se_one (W := fun x H1 => ∃ j : Int, [x] = [V.int j] ∧ -(2 ^ 62) ≤ j ∧ j < 2 ^ 62 ∧ Q (Itr 0 j.toNat) H1) h I h1 fun F1 H1 fp1 v I1 go r _ => ?_
    cases int?_inv hj
    cases r
    refine ⟨j, rfl, c.1, c.2, k F1 H1 fp1 _ I1 go ⟨_, _, by rw [show (rg1 j).length = j.toNat by unfold rg1; simp]; exact walk_range, fun _ _ => trivial, ?_⟩⟩
    rintro i H x H' hi _ ⟨e, hx⟩
    have hi : i < j.toNat := by unfold rg1 at hi; simpa using hi
    refine ⟨.int (i : Nat), by unfold rg1; rw [List.getElem?_map, List.getElem?_range hi]; rfl, .inl ⟨e, ?_⟩⟩
    rw [hx]
    show V.int (0 + (i : Int)) = V.int i
    rw [Int.zero_add]
  · cases e
theorem walkd_pair {J : It} {G : Hp → Prop} {n : Nat} {f g : Nat → Option V} {xs : List A} (w : Walk J n G (YPair f g)) (hn : xs.length = n) (hG : ∀ H, Same F H → G H)
    (h : ∀ i x y, f i = some x → g i = some y → i < n → ∃ a b, xs[i]? = some (.tup [a, b]) ∧ Rp cl F a x ∧ Rp cl F b y) : WalkD cl F J xs := by
  refine ⟨G, YPair f g, by rw [hn]; exact w, hG, fun i H x H' hi s ⟨T, u, v, ex, nT, eH, hu, hv⟩ => ?_⟩
  obtain ⟨a, b, hab, ra, rb⟩ := h i u v hu hv (by rw [← hn]; exact hi)
  exact ⟨_, hab, .inr (.inl ⟨T, [u, v], [a, b], rfl, ex, nT, eH, ⟨u, [v], rfl, ra, v, [], rfl, rb, rfl⟩⟩)⟩
theorem enumA_at {xs : List A} {i : Nat} : (enumA xs)[i]? = xs[i]?.map fun x => A.tup [.int (i : Nat), x] := by
  unfold enumA
  rw [List.getElem?_map, List.getElem?_zipIdx]
  cases xs[i]? <;> simp
theorem si_enum {pu : Bool} {t : TE} {g : Env → Option (A × Env)} (h : SF cl kp pu t g) : SI cl kp (iEnum K (tCons t tNil)) (gItE g) := by
  intro τ F H fp env σ Q xs env' I e k
  obtain ⟨⟨a, e1⟩, h1, e⟩ := Option.bind_eq_some_iff.mp e
  obtain ⟨l, hl, z⟩ := Option.map_eq_some_iff.mp e
  cases z
  refine h I h1 fun F1 H1 fp1 v I1 go r _ => ?_
  cases lsts_inv hl
  obtain ⟨p, vs, rfl, q, r⟩ := r
  refine ⟨p, vs, rfl, SqL.of (I1.le _ _ q), k F1 H1 fp1 _ I1 go (walkd_pair walk_enum (by unfold enumA; rw [List.length_map, List.length_zipIdx, r.length]) (fun H s => SqL.of (s _ _ q)) fun i x y hx hy hi => ?_)⟩
  obtain ⟨b, hb, rb⟩ := r.at' hy
  cases hx
  exact ⟨.int i, b, by rw [enumA_at, hb]; rfl, rfl, rb⟩
/-! ## comprehensions -/
def wipeE (env : Env) : List Nat → Env
  | [] => env
  | v :: vs => (wipeE env vs).set v .un
/-- the slots of the block as they were -/
def backE (e0 e : Env) : List Nat → Env
  | [] => e
  | v :: vs => match e0[v]? with
    | some o => (backE e0 e vs).set v o
    | none => backE e0 e vs
def offE (env : Env) (vs : List Nat) : Bool := vs.all fun v => match env[v]? with
  | some .un => true
  | some (.fl (.fz _)) => true
  | none => true
  | _ => false
theorem wipeE_len : ∀ (env : Env) (vs : List Nat), (wipeE env vs).length = env.length
  | _, [] => rfl
  | env, v :: vs => by unfold wipeE; rw [List.length_set, wipeE_len env vs]
theorem wipeE_at : ∀ {env : Env} {vs : List Nat} {i : Nat} {o : O}, (wipeE env vs)[i]? = some o → o = .un ∨ (i ∉ vs ∧ env[i]? = some o)
  | _, [], _, _, h => .inr ⟨List.not_mem_nil, h⟩
  | env, v :: vs, i, o, h => by
    rcases set_at h with ⟨rfl, rfl, _⟩ | ⟨ne, h⟩
    · exact .inl rfl
    · rcases wipeE_at h with z | ⟨z, h⟩
      · exact .inl z
      · exact .inr ⟨fun m => (List.mem_cons.mp m).elim ne z, h⟩
theorem Rs.wipe (I : Rs cl kp τ F H fp env σ) {vs : List Nat} (hk : ∀ i ∈ kp, i ∉ vs) : Rs cl kp τ F H fp (wipeE env vs) (L2.wipe σ vs) := by
  refine ⟨by rw [wipeE_len, wipe_length]; exact I.len, fun i o h => ?_, I.dis, I.sep, I.dom, I.le, fun i hi => ?_, by rw [wipe_length]; exact I.tl⟩
  · rcases wipeE_at h with rfl | ⟨ni, h⟩
    · exact .inl rfl
    · rw [wipe_out ni]; exact I.slot i o h
  · rw [wipe_out (hk i hi)]; exact I.pro i hi
theorem backE_len (e0 e : Env) : ∀ vs : List Nat, (backE e0 e vs).length = e.length
  | [] => rfl
  | v :: vs => by
    unfold backE
    split
    · rw [List.length_set]; exact backE_len e0 e vs
    · exact backE_len e0 e vs
theorem backE_at (e0 e : Env) : ∀ {vs : List Nat} {i : Nat} {o : O}, (backE e0 e vs)[i]? = some o → (i ∈ vs ∧ e0[i]? = some o) ∨ (e[i]? = some o ∧ (i ∈ vs → e0[i]? = none))
  | [], i, o, h => .inr ⟨h, fun z => nomatch z⟩
  | v :: vs, i, o, h => by
    unfold backE at h
    split at h
    · rename_i o' ho
      rcases set_at h with ⟨rfl, rfl, _⟩ | ⟨ne, h⟩
      · exact .inl ⟨List.mem_cons_self, ho⟩
      · rcases backE_at e0 e h with ⟨a, b⟩ | ⟨a, b⟩
        · exact .inl ⟨List.mem_cons_of_mem _ a, b⟩
        · exact .inr ⟨a, fun m => (List.mem_cons.mp m).elim (fun z => (ne z).elim) b⟩
    · rename_i hn
      rcases backE_at e0 e h with ⟨a, b⟩ | ⟨a, b⟩
      · exact .inl ⟨List.mem_cons_of_mem _ a, b⟩
      · exact .inr ⟨a, fun m => (List.mem_cons.mp m).elim (fun z => by rw [z]; exact hn) b⟩
/-- behind the block -/
theorem Rs.back {F0 H0 : Hp} {fp0 : Nat → Addr → Prop} {e0 : Env} {vs : List Nat} (I0 : Rs cl kp τ F0 H0 fp0 e0 σ) (off : offE e0 vs = true) (I : Rs cl kp τ F H fp env (L2.wipe σ vs)) (s : Same F0 F) : Rs cl kp τ F H fp (backE e0 env vs) σ := by
  have ln : env.length = e0.length := by rw [I.len, wipe_length, I0.len]
  refine ⟨by rw [backE_len, ln]; exact I0.len, fun i o h => ?_, I.dis, I.sep, I.dom, I.le, I0.pro, I0.tl⟩
  rcases backE_at e0 env h with ⟨m, h⟩ | ⟨h, nm⟩
  · have := List.all_eq_true.mp off i m
    rw [h] at this
    cases o with
    | un => exact .inl rfl
    | ins c ns fs => cases this
    | fl f =>
      cases f with
      | fz a => exact (I0.slot i _ h).imp id fun ⟨v, a, b⟩ => ⟨v, a, Rp.same s b⟩
      | _ => cases this
  · have : i ∉ vs := fun m => by
      have h1 := List.getElem?_eq_none_iff.mp (nm m)
      have h2 := (List.getElem?_eq_some_iff.mp h).1
      omega
    rw [← wipe_out this]
    exact I.slot i o h
/-- a cell apart from all that is known -/
theorem Rs.apart (I : Rs cl kp τ F H fp env σ) {D : Addr} {o : HO} (ho : HOtup o = false) (nU : ¬ U fp D) (nF : F D = none) : Rs cl kp τ F (upd H D o) fp env σ := by
  refine ⟨I.len, fun i x e => (I.slot i x e).imp id fun ⟨v, a, b⟩ => ⟨v, a, OR.go (Same.refl F) (fun q u h e => by rw [upd_ne (fun z => nU ⟨i, by rw [← z]; exact h⟩)]; exact e) b⟩, I.dis, I.sep, fun i q h => nt_upd ho (I.dom i q h), fun q u e => ?_, I.pro, I.tl⟩
  rw [upd_ne (fun z => by rw [z, nF] at e; cases e)]
  exact I.le _ _ e
/-- .. stays so -/
structure Apart (D : Addr) (F H : Hp) (fp : Nat → Addr → Prop) : Prop where
  nU : ¬ U fp D
  nF : F D = none
theorem Apart.go {D : Addr} {o : HO} {fp' : Nat → Addr → Prop} (a : Apart D F H fp) (h : H D = some o) (ho : HOtup o = false) (g : Go F H (U fp) F' H' (U fp')) : Apart D F' H' fp' ∧ H' D = some o := by
  refine ⟨⟨fun z => ?_, ?_⟩, g.keep _ _ a.nU h⟩
  · rcases g.fpn D z with z | z
    · exact a.nU z
    · rw [h] at z; cases z
  · cases e : F' D with
    | none => rfl
    | some u =>
      rcases g.new D (by rw [e]; exact fun z => nomatch z) a.nF with z | z | ⟨vs, z⟩
      · rw [h] at z; cases z
      · exact (a.nU z).elim
      · rw [h] at z; cases z; cases ho
theorem Go.apart {D : Addr} {o : HO} (ho : HOtup o = false) {fp0 : Nat → Addr → Prop} {F0 H0 : Hp} (g : Go F0 H0 (fun p => U fp0 p ∨ p = D) F H (fun p => U fp p ∨ p = D)) : Go F0 H0 (fun p => U fp0 p ∨ p = D) F (L2.upd H D o) (fun p => U fp p ∨ p = D) :=
  g.trans ⟨Same.refl F, fun p u n e => by rw [upd_ne (fun z => n (.inr z))]; exact e, fun p a e => (a e).elim, fun p h => .inl h, fun p h => dom_upd h, fun p h => nt_upd ho h⟩
theorem Go.join {D : Addr} {fp' : Nat → Addr → Prop} (g : Go F H (U fp) F' H' (U fp')) (dD : H D ≠ none) : Go F H (fun p => U fp p ∨ p = D) F' H' (fun p => U fp' p ∨ p = D) :=
  ⟨g.sF, fun p u n e => g.keep p u (fun z => n (.inl z)) e, fun p a e => (g.new p a e).imp id (Or.imp .inl id), fun p h => h.elim (fun z => (g.fpn p z).imp .inl id) fun z => .inl (.inr z), g.dom, g.ntd⟩
def compG (vs : List Nat) (h : A → Env → Option Env) (tt : Env → Option (Bool × Env)) (te : Env → Option (A × Env)) : List A → List A → Env → Option (List A × Env)
  | [], acc, env => some (acc, env)
  | x :: xs, acc, env => (h x env).bind fun e1 => (tt e1).bind fun p => if p.1 then (te p.2).bind fun q => if acc.length < sizeLine then compG vs h tt te xs (acc ++ [q.1]) (wipeE q.2 vs) else none
    else compG vs h tt te xs acc (wipeE p.2 vs)
def gComp (it : Env → Option (List A × Env)) (vs : List Nat) (h : A → Env → Option Env) (tt : Env → Option (Bool × Env)) (te : Env → Option (A × Env)) : G := fun env => (it env).bind fun p => if offE p.2 vs then (compG vs h tt te p.1 [] (wipeE p.2 vs)).map fun q => (.ow (.fl (.lst q.1)), backE p.2 q.2 vs) else none
def gYes : Env → Option (Bool × Env) := fun env => some (true, env)
theorem st_yes : ST cl kp true tYes gYes := by
  intro τ F H fp env σ Q b env' I e k
  cases e
  exact k F H fp I Go.refl fun _ => ⟨rfl, rfl, Same.refl _⟩
/-- the block, the list that is walked known -/
theorem lc_core' {ts : List Nat} {pt pe : Bool} {tg : TG} {tt : TT} {te : TE} {vs : List Nat} {h : A → Env → Option Env} {gt : Env → Option (Bool × Env)} {ge : Env → Option (A × Env)} (hk : ∀ i ∈ kp, i ∉ vs)
    (hg : SG cl kp ts tg h) (tin : ∀ i ∈ ts, i ∈ vs) (ht : ST cl kp pt tt gt) (he : SF cl kp pe te ge) {F0 H0 : Hp} {fp0 : Nat → Addr → Prop} {e0 e9 : Env} {J : It} {xs ys : List A} {Q : VK} (I0 : Rs cl kp τ F0 H0 fp0 e0 σ) (off : offE e0 vs = true) (wk : WalkD cl F0 J xs)
    (h9 : compG vs h gt ge xs [] (wipeE e0 vs) = some (ys, e9))
    (k : ∀ F' H' fp' S v, Rs cl kp τ F' H' fp' (backE e0 e9 vs) σ → Go F0 H0 (U fp0) F' H' (fun p => U fp' p ∨ S p) → RR cl F' H' fp' σ (.ow (.fl (.lst ys))) v S → Q v H') : tLc (iK J) tg tt te vs σ H0 Q := by
  obtain ⟨G, Y, w, wG, wY⟩ := wk
  intro D hD
  have fD := fnone I0.le hD
  have uD : ¬ U fp0 D := fun ⟨i, z⟩ => (I0.dom i D z).ne hD
  have W0 := (I0.wipe hk (vs := vs)).laid (o := .lst []) hD
  let Pv : Nat → Hp → Prop := fun i H' => ∃ F' fp' ei acc ws, Rs cl kp τ F' H' fp' ei (L2.wipe σ vs) ∧ Go F0 H0 (fun p => U fp0 p ∨ p = D) F' H' (fun p => U fp' p ∨ p = D) ∧ Apart D F' H' fp' ∧ H' D = some (.lst ws) ∧ RpL cl F' acc ws ∧ compG vs h gt ge (xs.drop i) acc ei = some (ys, e9)
  refine lc_it w Pv ⟨F0, fp0, _, [], [], W0, ?_, ⟨uD, fD⟩, upd_same, rfl, h9⟩ ?_ ?_ ?_
  · exact ⟨Same.refl _, fun p u n e => by rw [upd_ne (fun z => n (.inr z))]; exact e, fun p a e => (a e).elim, fun p h => .inl h, fun p h => dom_upd h, fun p h => nt_upd rfl h⟩
  · rintro i H' _ ⟨F', fp', ei, acc, ws, I', go', _⟩
    exact wG H' (go'.sF.trans I'.le)
  · rintro i x H' H2 hi' ⟨F', fp', ei, acc, ws, I', go', ap, hd, rw', le⟩ y
    obtain ⟨a, ha, hx⟩ := wY i H' x H2 hi' (go'.sF.trans I'.le) y
    obtain ⟨F2, I2, go2, r2, s2⟩ := turn_ok (J := J) I' go'.sF ha hx
    have hd' : xs.drop i = a :: xs.drop (i + 1) := by
      rw [List.drop_eq_getElem_cons hi']
      congr 1
      exact Option.some.inj ((List.getElem?_eq_getElem hi').symm.trans ha)
    rw [hd'] at le
    obtain ⟨e2, he2, le⟩ := Option.bind_eq_some_iff.mp (show ((h a ei).bind fun e1 => (gt e1).bind fun p => if p.1 then (ge p.2).bind fun q => if acc.length < sizeLine then compG vs h gt ge (xs.drop (i + 1)) (acc ++ [q.1]) (wipeE q.2 vs) else none
      else compG vs h gt ge (xs.drop (i + 1)) acc (wipeE p.2 vs)) = some (ys, e9) from le)
    obtain ⟨⟨b, e3⟩, he3, le⟩ := Option.bind_eq_some_iff.mp le
    obtain ⟨ap2, hd2⟩ := ap.go hd rfl go2
    have rw2 := RpL.same go2.sF rw'
    have go2 := go'.trans (go2.join (by rw [hd]; exact fun z => nomatch z))
    refine hg I2 r2 he2 fun σ3 fp3 I3 s3 w3 => ⟨(w3 vs tin).trans wipe_wipe, ?_⟩
    have ap3 : Apart D F2 H2 fp3 := ⟨fun z => ap2.nU (s3 D z), ap2.nF⟩
    have go3 := go2.mono (V' := fun p => U fp3 p ∨ p = D) fun p z => z.imp (s3 p) id
    have ws3 : L2.wipe σ3 vs = L2.wipe σ vs := (w3 vs tin).trans wipe_wipe
    refine ht I3 he3 fun F4 H4 fp4 I4 go4 _ => ?_
    obtain ⟨ap4, hd4⟩ := ap3.go hd2 rfl go4
    have rw4 := RpL.same go4.sF rw2
    have go4 := go3.trans (go4.join (by rw [hd2]; exact fun z => nomatch z))
    cases b with
    | false =>
      have J4 := I4.wipe hk
      rw [ws3] at J4
      exact ⟨F4, fp4, _, acc, ws, J4, go4, ap4, hd4, rw4, le⟩
    | true =>
      obtain ⟨⟨c, e5⟩, he5, le⟩ := Option.bind_eq_some_iff.mp (show ((ge e3).bind fun q => if acc.length < sizeLine then compG vs h gt ge (xs.drop (i + 1)) (acc ++ [q.1]) (wipeE q.2 vs) else none) = some (ys, e9) from le)
      split at le
      case isFalse => cases le
      rename_i hz
      refine he I4 he5 fun F5 H5 fp5 u I5 go5 r5 _ => ?_
      obtain ⟨ap5, hd5⟩ := ap4.go hd4 rfl go5
      have rw5 := RpL.same go5.sF rw4
      have go5 := go4.trans (go5.join (by rw [hd4]; exact fun z => nomatch z))
      have J5 := I5.wipe hk
      rw [ws3] at J5
      exact ⟨ws, hd5, by rw [rw4.length]; exact hz, F5, fp5, _, acc ++ [c], ws ++ [u], J5.apart rfl ap5.nU ap5.nF, go5.apart rfl, ⟨ap5.nU, ap5.nF⟩, upd_same, rw5.app (RpL.one r5), le⟩
  · rintro H' ⟨F', fp', ei, acc, ws, I', go', ap, hd, rw', le⟩
    rw [List.drop_length] at le
    cases le
    refine k F' H' fp' (fun q => q = D) _ (I0.back off I' go'.sF) ?_ ⟨⟨D, ws, rfl, rfl, hd, rw'⟩, fun p e => by rw [e]; exact ⟨ap.nF, ⟨_, hd, rfl⟩, ap.nU⟩⟩
    refine ⟨go'.sF, fun p u n e => ?_, fun p a e => ?_, fun p h => ?_, go'.dom, go'.ntd⟩
    · exact go'.keep p u (fun z => z.elim n fun z => by rw [z, hD] at e; cases e) e
    · rcases go'.new p a e with z | (z | z) | z
      · exact .inl z
      · exact .inr (.inl z)
      · exact .inl (by rw [z]; exact hD)
      · exact .inr (.inr z)
    · rcases go'.fpn p h with z | z
      · exact z.elim .inl fun z => .inr (by rw [z]; exact hD)
      · exact .inr z
theorem se_lc {ts : List Nat} {pt pe : Bool} {wi : TI} {tg : TG} {tt : TT} {te : TE} {vs : List Nat} {it : Env → Option (List A × Env)} {h : A → Env → Option Env} {gt : Env → Option (Bool × Env)} {ge : Env → Option (A × Env)} (hk : ∀ i ∈ kp, i ∉ vs) (hi : SI cl kp wi it)
    (hg : SG cl kp ts tg h) (tin : ∀ i ∈ ts, i ∈ vs) (ht : ST cl kp pt tt gt) (he : SF cl kp pe te ge) : SE cl kp false (tLc wi tg tt te vs) (gComp it vs h gt ge) := by
  intro τ F H fp env σ Q r env' I e k
  obtain ⟨⟨xs, e0⟩, h1, e⟩ := Option.bind_eq_some_iff.mp e
  split at e
  case isFalse => cases e
  rename_i off
  obtain ⟨⟨ys, e9⟩, h9, z⟩ := Option.map_eq_some_iff.mp e
  cases z
  exact hi I h1 fun F0 H0 fp0 J I0 go0 wk => lc_core' hk hg tin ht he I0 off wk h9 fun F' H' fp' S v I' go' r => k F' H' fp' S v I' (go0.trans go') r fun z => nomatch z
end
end Dl
namespace Dl
open PySem PySem.Spec L2

/-! ## defs -/
abbrev GF := List O → Option (O × List O)
def spD (cl : Nat → Addr) (f : GF) : Sp := fun vs H Q _ => ∃ F fp os res os', Rs cl [] (vs.map some) F H fp os (vs.map some) ∧ f os = some (res, os') ∧
  ∀ F' H' fp' S v, Rs cl [] (vs.map some) F' H' fp' os' (vs.map some) → Go F H (U fp) F' H' (fun p => U fp' p ∨ S p) → OR cl F' H' S res v → (∀ p, S p → F' p = none ∧ Nt H' p ∧ ¬ U fp' p) → Q v H'
/-- the parameters behind the call: those at ra are names that were stored -/
def finO (ra : List Nat) : Nat → List O → Env → List O
  | k, o :: os, e :: env => (if ra.contains k then o else e) :: finO ra (k + 1) os env
  | _, _, _ => []
def O.fzn : O → Bool
  | .fl (.fz _) => true | _ => false
def okRa (ra : List Nat) (os : List O) : Bool := ra.all fun i => match os[i]? with
  | some o => o.fzn
  | none => false
def fnD (ra : List Nat) (n m : Nat) (body : GS) : GF := fun os =>
  if os.length = n ∧ okRa ra os = true then (body (os ++ List.replicate m .un)).bind fun p => match p.1 with
    | .rt o => some (o, finO ra 0 os p.2)
    | .nx => some (.fl (.fz .non), finO ra 0 os p.2)
    | _ => none
  else none
section
variable {cl : Nat → Addr} {kp : List Nat} {τ σ : L2.St} {F F' H H' : Hp} {fp : Nat → Addr → Prop} {env : Env} {S : Addr → Prop} {Eh : XK}
theorem finO_at {ra : List Nat} : ∀ {os : List O} {env : Env} {k i : Nat} {o : O}, os.length ≤ env.length → (finO ra k os env)[i]? = some o → (ra.contains (k + i) = true ∧ os[i]? = some o) ∨ (ra.contains (k + i) = false ∧ env[i]? = some o ∧ i < os.length)
  | [], _, _, _, _, _, h => by simp [finO] at h
  | _ :: _, [], _, _, _, l, _ => by simp at l
  | o :: os, e :: env, k, 0, x, _, h => by
    simp only [finO, List.getElem?_cons_zero, Option.some.injEq] at h
    by_cases c : ra.contains k = true
    · rw [if_pos c] at h; exact .inl ⟨c, by rw [h]; rfl⟩
    · rw [if_neg c] at h; exact .inr ⟨by simpa using c, by rw [h]; rfl, by simp⟩
  | o :: os, e :: env, k, i + 1, x, l, h => by
    simp only [finO, List.getElem?_cons_succ] at h
    rcases finO_at (by simpa using l) h with ⟨a, b⟩ | ⟨a, b, c⟩
    · exact .inl ⟨by rw [← a]; congr 1; omega, by simpa using b⟩
    · exact .inr ⟨by rw [← a]; congr 1; omega, by simpa using b, by simp; omega⟩
theorem finO_len {ra : List Nat} : ∀ {os : List O} {env : Env} {k : Nat}, os.length ≤ env.length → (finO ra k os env).length = os.length
  | [], _, _, _ => rfl
  | _ :: _, [], _, l => by simp at l
  | o :: os, e :: env, k, l => by
    simp only [finO, List.length_cons]
    rw [finO_len (by simpa using l)]
theorem start_at {N : List Str} {vs : List V} {i : Nat} (h : vs.length ≤ N.length) (hi : i < vs.length) : (L2.start N vs)[i]? = (vs.map some)[i]? := by
  unfold L2.start
  rw [List.getElem?_append_left (by simpa using hi)]
/-- a def by its body -/
theorem Rs.start {N : List Str} {vs : List V} {os : List O} (I : Rs cl [] (vs.map some) F H fp os (vs.map some)) (m : Nat) (hm : N.length = vs.length + m) (kp : List Nat) :
    Rs cl kp (L2.start N vs) F H (fun i p => i < vs.length ∧ fp i p) (os ++ List.replicate m .un) (L2.start N vs) := by
  have ln : os.length = vs.length := by have := I.len; simpa using this
  refine ⟨?_, fun i o h => ?_, fun i j p a b => I.dis i j p a.2 b.2, fun i p a => I.sep i p a.2, fun i p a => I.dom i p a.2, I.le, fun _ _ => rfl, rfl⟩
  · unfold L2.start
    simp only [List.length_append, List.length_replicate, List.length_map]
    omega
  · by_cases hi : i < vs.length
    · rw [List.getElem?_append_left (by omega)] at h
      rw [start_at (by omega) hi]
      exact (I.slot i o h).imp id fun ⟨v, a, b⟩ => ⟨v, a, OR.sub (fun p z => ⟨hi, z⟩) b⟩
    · rw [List.getElem?_append_right (by omega), List.getElem?_replicate] at h
      split at h
      · cases h; exact .inl rfl
      · cases h
theorem Rs.fin {N : List Str} {vs : List V} {os : List O} {ra : List Nat} {F0 H0 : Hp} {fp0 : Nat → Addr → Prop} (I0 : Rs cl [] (vs.map some) F0 H0 fp0 os (vs.map some)) (ok : okRa ra os = true) {kp : List Nat} (hk : ∀ i, i < vs.length → i ∉ ra → i ∈ kp) (hN : vs.length ≤ N.length)
    (I : Rs cl kp (L2.start N vs) F H fp env σ) (s : Same F0 F) : Rs cl [] (vs.map some) F H (fun i p => i < vs.length ∧ i ∉ ra ∧ fp i p) (finO ra 0 os env) (vs.map some) := by
  have ln : os.length = vs.length := by have := I0.len; simpa using this
  have le : os.length ≤ env.length := by
    rw [I.len, I.tl, ln]
    unfold L2.start
    simp
  refine ⟨by rw [finO_len le, List.length_map, ln], fun i o h => ?_, fun i j p a b => I.dis i j p a.2.2 b.2.2, fun i p a => I.sep i p a.2.2, fun i p a => I.dom i p a.2.2, I.le, fun _ h => (nomatch h), rfl⟩
  rcases finO_at le h with ⟨a, b⟩ | ⟨a, b, c⟩
  · rw [Nat.zero_add] at a
    have := List.all_eq_true.mp ok i (by simpa using a)
    rw [b] at this
    cases o with
    | fl f =>
      cases f with
      | fz x => exact (I0.slot i _ b).imp id fun ⟨v, e, q⟩ => ⟨v, e, Rp.same s q⟩
      | _ => cases this
    | _ => cases this
  · rw [Nat.zero_add] at a
    have hi : i < vs.length := by omega
    have nr : i ∉ ra := fun m => by
      have : ra.contains i = true := by simpa using m
      rw [a] at this; cases this
    have e := I.pro i (hk i hi nr)
    rw [start_at hN hi] at e
    exact (I.slot i o b).imp id fun ⟨v, q, r⟩ => ⟨v, by rw [← e]; exact q, OR.sub (fun p z => ⟨hi, nr, z⟩) r⟩
theorem fnD_inv {ra : List Nat} {n m : Nat} {g : GS} {os os' : List O} {res : O} (e : fnD ra n m g os = some (res, os')) :
    os.length = n ∧ okRa ra os = true ∧ ∃ f env', g (os ++ List.replicate m .un) = some (f, env') ∧ os' = finO ra 0 os env' ∧ (f = .rt res ∨ (f = .nx ∧ res = .fl (.fz .non))) := by
  unfold fnD at e
  split at e
  · rename_i c
    obtain ⟨⟨f, env'⟩, h, e⟩ := Option.bind_eq_some_iff.mp e
    refine ⟨c.1, c.2, f, env', h, ?_⟩
    cases f with
    | rt o => cases e; exact ⟨rfl, .inl rfl⟩
    | nx => cases e; exact ⟨rfl, .inr ⟨rfl, rfl⟩⟩
    | bk => cases e
    | ct => cases e
    | er x => cases e
  · cases e
theorem body_ok {N : List Str} {vs : List V} {ra kp : List Nat} {m : Nat} {g : GS} {t : TS} {Q : VK} {n : Nat} {E : XK} (hN : N.length = n + m) (hk : ∀ i, i < n → i ∉ ra → i ∈ kp) (h : SS cl kp Eh t g) (sp : spD cl (fnD ra n m g) vs H Q E) :
    t { nx := fun _ H' => Q .non H', rt := Q } (L2.start N vs) H := by
  obtain ⟨F, fp, os, res, os', I, e, k⟩ := sp
  obtain ⟨l, ok, f, env', hg, rfl, hf⟩ := fnD_inv e
  have ln : os.length = vs.length := by have := I.len; simpa using this
  have I0 := I.start m (by omega : N.length = vs.length + m) kp
  have go0 : Go F H (U fp) F H (U fun i p => i < vs.length ∧ fp i p) := Go.refl.mono fun p ⟨i, _, z⟩ => ⟨i, z⟩
  have sub : ∀ {fp' : Nat → Addr → Prop} (p : Addr), U (fun i p => i < vs.length ∧ i ∉ ra ∧ fp' i p) p → U fp' p := fun p ⟨i, _, _, z⟩ => ⟨i, z⟩
  refine h I0 hg ?_
  rcases hf with rfl | ⟨rfl, rfl⟩
  · intro F' H' fp' σ' S v I' go rr nS
    exact k F' H' _ S v (I.fin ok (fun i hi hr => hk i (by omega) hr) (by omega) I' go.sF) ((go0.trans go).mono fun p z => z.imp (sub p) id) rr fun p s => ⟨(nS p s).1, (nS p s).2.1, fun z => (nS p s).2.2 (sub p z)⟩
  · intro F' H' fp' σ' I' go
    exact k F' H' _ (fun _ => False) .non (I.fin ok (fun i hi hr => hk i (by omega) hr) (by omega) I' go.sF) ((go0.trans go).mono fun p z => z.elim (sub p) False.elim) rfl fun p s => s.elim
/-! ## calls -/
def argO (env : Env) : R → Option O
  | .fz a => some (.fl (.fz a))
  | .pl i => match env[i]? with
    | some .un => none
    | o => o
  | _ => none
def argOs (env : Env) : List R → Option (List O)
  | [] => some []
  | r :: rs => (argO env r).bind fun o => (argOs env rs).map (o :: ·)
def plIdx : List R → List Nat
  | .pl i :: rs => i :: plIdx rs
  | _ :: rs => plIdx rs
  | [] => []
def backO : Env → List R → List O → Env
  | env, [], _ => env
  | env, _ :: _, [] => env
  | env, .pl i :: rs, o :: os => backO (env.set i o) rs os
  | env, .fz _ :: rs, _ :: os => backO env rs os
  | env, .pf _ _ :: rs, _ :: os => backO env rs os
  | env, .ow _ :: rs, _ :: os => backO env rs os
def O.toR : O → R
  | .fl (.fz a) => .fz a
  | o => .ow o
/-- what stands at the arguments -/
def RRs (cl : Nat → Addr) (F : Hp) (σ : L2.St) : List R → List V → Prop
  | [], vs => vs = []
  | .fz a :: rs, vs => ∃ v r, vs = v :: r ∧ Rp cl F a v ∧ RRs cl F σ rs r
  | .pl i :: rs, vs => ∃ v r, vs = v :: r ∧ σ[i]? = some (some v) ∧ RRs cl F σ rs r
  | _ :: _, _ => False
theorem RRs.same (s : Same F F') : ∀ {rs : List R} {vs : List V}, RRs cl F σ rs vs → RRs cl F' σ rs vs
  | [], _, h => h
  | .fz a :: rs, _, h => let ⟨v, r, e, q, z⟩ := h; ⟨v, r, e, Rp.same s q, RRs.same s z⟩
  | .pl i :: rs, _, h => let ⟨v, r, e, q, z⟩ := h; ⟨v, r, e, q, RRs.same s z⟩
  | .pf _ _ :: _, _, h => h.elim
  | .ow _ :: _, _, h => h.elim
theorem RRs.len : ∀ {rs : List R} {vs : List V}, RRs cl F σ rs vs → vs.length = rs.length
  | [], _, h => by cases h; rfl
  | .fz a :: rs, _, h => by obtain ⟨v, r, rfl, q, z⟩ := h; simp [RRs.len z]
  | .pl i :: rs, _, h => by obtain ⟨v, r, rfl, q, z⟩ := h; simp [RRs.len z]
  | .pf _ _ :: _, _, h => h.elim
  | .ow _ :: _, _, h => h.elim
theorem RRs.at : ∀ {rs : List R} {vs : List V} {k : Nat} {r : R}, RRs cl F σ rs vs → rs[k]? = some r → ∃ v, vs[k]? = some v ∧ (match r with | .fz a => Rp cl F a v | .pl i => σ[i]? = some (some v) | _ => False)
  | [], _, _, _, _, e => by simp at e
  | .fz a :: rs, _, 0, _, h, e => by obtain ⟨v, r, rfl, q, z⟩ := h; simp at e; subst e; exact ⟨v, rfl, q⟩
  | .pl i :: rs, _, 0, _, h, e => by obtain ⟨v, r, rfl, q, z⟩ := h; simp at e; subst e; exact ⟨v, rfl, q⟩
  | .fz a :: rs, _, k + 1, _, h, e => by
    obtain ⟨v, r, rfl, q, z⟩ := h
    obtain ⟨u, hu, w⟩ := RRs.at z (by simpa using e)
    exact ⟨u, by simpa using hu, w⟩
  | .pl i :: rs, _, k + 1, _, h, e => by
    obtain ⟨v, r, rfl, q, z⟩ := h
    obtain ⟨u, hu, w⟩ := RRs.at z (by simpa using e)
    exact ⟨u, by simpa using hu, w⟩
  | .pf _ _ :: _, _, _, _, h, _ => h.elim
  | .ow _ :: _, _, _, _, h, _ => h.elim
theorem argOs_at : ∀ {rs : List R} {os : List O} {k : Nat} {o : O}, argOs env rs = some os → os[k]? = some o → ∃ r, rs[k]? = some r ∧ argO env r = some o
  | [], _, _, _, e, h => by cases e; simp at h
  | r :: rs, _, 0, _, e, h => by
    obtain ⟨o, ho, e⟩ := Option.bind_eq_some_iff.mp e
    obtain ⟨os, hos, rfl⟩ := Option.map_eq_some_iff.mp e
    simp at h; subst h
    exact ⟨r, rfl, ho⟩
  | r :: rs, _, k + 1, _, e, h => by
    obtain ⟨o, ho, e⟩ := Option.bind_eq_some_iff.mp e
    obtain ⟨os, hos, rfl⟩ := Option.map_eq_some_iff.mp e
    obtain ⟨r', h1, h2⟩ := argOs_at hos (by simpa using h)
    exact ⟨r', by simpa using h1, h2⟩
theorem argOs_len : ∀ {rs : List R} {os : List O}, argOs env rs = some os → os.length = rs.length
  | [], _, e => by cases e; rfl
  | r :: rs, _, e => by
    obtain ⟨o, ho, e⟩ := Option.bind_eq_some_iff.mp e
    obtain ⟨os, hos, rfl⟩ := Option.map_eq_some_iff.mp e
    simp [argOs_len hos]
theorem plIdx_mem : ∀ {rs : List R} {k i : Nat}, rs[k]? = some (.pl i) → i ∈ plIdx rs
  | [], _, _, h => by simp at h
  | r :: rs, 0, i, h => by simp at h; subst h; exact List.mem_cons_self
  | r :: rs, k + 1, i, h => by
    have := plIdx_mem (rs := rs) (k := k) (i := i) (by simpa using h)
    cases r <;> first | exact List.mem_cons_of_mem _ this | exact this
theorem plIdx_at : ∀ {rs : List R} {i : Nat}, i ∈ plIdx rs → ∃ k : Nat, rs[k]? = some (.pl i)
  | [], _, h => nomatch h
  | r :: rs, i, h => by
    cases r with
    | pl j =>
      rcases List.mem_cons.mp (show i ∈ j :: plIdx rs from h) with rfl | h
      · exact ⟨0, rfl⟩
      · obtain ⟨k, hk⟩ := plIdx_at h; exact ⟨k + 1, by simpa using hk⟩
    | fz a => obtain ⟨k, hk⟩ := plIdx_at (show i ∈ plIdx rs from h); exact ⟨k + 1, by simpa using hk⟩
    | pf a b => obtain ⟨k, hk⟩ := plIdx_at (show i ∈ plIdx rs from h); exact ⟨k + 1, by simpa using hk⟩
    | ow a => obtain ⟨k, hk⟩ := plIdx_at (show i ∈ plIdx rs from h); exact ⟨k + 1, by simpa using hk⟩
theorem plIdx_inj : ∀ {rs : List R} {k l i : Nat}, (plIdx rs).Nodup → rs[k]? = some (.pl i) → rs[l]? = some (.pl i) → k = l
  | [], _, _, _, _, h, _ => by simp at h
  | r :: rs, 0, 0, _, _, _, _ => rfl
  | r :: rs, 0, l + 1, i, n, h, g => by
    simp at h; subst h
    exact absurd (plIdx_mem (by simpa using g)) (List.nodup_cons.mp (show (i :: plIdx rs).Nodup from n)).1
  | r :: rs, k + 1, 0, i, n, h, g => by
    simp at g; subst g
    exact absurd (plIdx_mem (by simpa using h)) (List.nodup_cons.mp (show (i :: plIdx rs).Nodup from n)).1
  | r :: rs, k + 1, l + 1, i, n, h, g => by
    have n' : (plIdx rs).Nodup := by cases r <;> first | exact (List.nodup_cons.mp n).2 | exact n
    have := plIdx_inj (k := k) (l := l) (i := i) n' (by simpa using h) (by simpa using g)
    omega
theorem backO_len : ∀ {rs : List R} {os : List O} {env : Env}, (backO env rs os).length = env.length
  | [], _, _ => by simp [backO]
  | r :: rs, [], env => by simp [backO]
  | r :: rs, o :: os, env => by
    cases r with
    | pl i => exact (backO_len (rs := rs) (os := os) (env := env.set i o)).trans List.length_set
    | fz _ => exact backO_len (rs := rs) (os := os) (env := env)
    | pf _ _ => exact backO_len (rs := rs) (os := os) (env := env)
    | ow _ => exact backO_len (rs := rs) (os := os) (env := env)
theorem backO_out : ∀ {rs : List R} {os : List O} {env : Env} {j : Nat}, j ∉ plIdx rs → (backO env rs os)[j]? = env[j]?
  | [], _, _, _, _ => by simp [backO]
  | r :: rs, [], env, j, _ => by simp [backO]
  | r :: rs, o :: os, env, j, h => by
    cases r with
    | pl i =>
      have h : j ∉ i :: plIdx rs := h
      show (backO (env.set i o) rs os)[j]? = _
      rw [backO_out (fun z => h (List.mem_cons_of_mem _ z)), List.getElem?_set_ne (fun z => h (by rw [z]; exact List.mem_cons_self))]
    | _ => exact backO_out (rs := rs) (os := os) h
theorem backO_in : ∀ {rs : List R} {os : List O} {env : Env} {k i : Nat}, (plIdx rs).Nodup → rs[k]? = some (.pl i) → k < os.length → i < env.length → (backO env rs os)[i]? = os[k]?
  | [], _, _, _, _, _, h, _, _ => by simp at h
  | r :: rs, [], env, k, i, _, _, l, _ => by simp at l
  | r :: rs, o :: os, env, 0, i, n, h, _, hi => by
    simp at h; subst h
    show (backO (env.set i o) rs os)[i]? = _
    rw [backO_out (List.nodup_cons.mp (show (i :: plIdx rs).Nodup from n)).1, List.getElem?_set_self hi]
    rfl
  | r :: rs, o :: os, env, k + 1, i, n, h, l, hi => by
    have n' : (plIdx rs).Nodup := by cases r <;> first | exact (List.nodup_cons.mp n).2 | exact n
    have h' : rs[k]? = some (.pl i) := by simpa using h
    have l' : k < os.length := by simpa using l
    cases r with
    | pl j => show (backO (env.set j o) rs os)[i]? = _; rw [backO_in n' h' l' (by rw [List.length_set]; exact hi)]; simp
    | _ => show (backO env rs os)[i]? = _; rw [backO_in n' h' l' hi]; simp
/-- the slots that a call does not touch -/
theorem untouched (I : Rs cl kp τ F H fp env σ) {UA UB : Addr → Prop} (go : Go F H UA F' H' UB) {j : Nat} (no : ∀ p, fp j p → ¬ UA p) :
    (∀ o, env[j]? = some o → OS cl F' H' (fp j) o σ[j]?) ∧ (∀ p, fp j p → F' p = none) ∧ (∀ p, fp j p → Nt H' p) ∧ ∀ p, fp j p → ¬ UB p := by
  refine ⟨fun o e => (I.slot j o e).imp id fun ⟨v, a, b⟩ => ⟨v, a, OR.go go.sF (fun p u h => go.keep p u (no p h)) b⟩, fun p h => ?_, fun p h => go.ntd p (I.dom j p h), fun p h z => ?_⟩
  · cases e : F' p with
    | none => rfl
    | some u =>
      rcases go.new p (by rw [e]; exact fun z => nomatch z) (I.sep j p h) with z | z | ⟨vs, z⟩
      · exact ((I.dom j p h).ne z).elim
      · exact (no p h z).elim
      · exact ((I.dom j p h).no z).elim
  · rcases go.fpn p z with z | z
    · exact no p h z
    · exact (I.dom j p h).ne z
/-- the arguments as a state of their own -/
def fpArg (fp : Nat → Addr → Prop) (rs : List R) : Nat → Addr → Prop := fun k p => ∃ i, rs[k]? = some (.pl i) ∧ fp i p
theorem Rs.args (I : Rs cl kp τ F H fp env σ) {rs : List R} {vs : List V} {os : List O} (r : RRs cl F σ rs vs) (a : argOs env rs = some os) (n : (plIdx rs).Nodup) : Rs cl [] (vs.map some) F H (fpArg fp rs) os (vs.map some) := by
  refine ⟨by rw [argOs_len a, List.length_map, r.len], fun k o h => ?_, fun k l p ⟨i, hi, a⟩ ⟨j, hj, b⟩ => ?_, fun k p ⟨i, _, a⟩ => I.sep i p a, fun k p ⟨i, _, a⟩ => I.dom i p a, I.le, fun _ h => (nomatch h), rfl⟩
  · obtain ⟨x, hx, ha⟩ := argOs_at a h
    obtain ⟨v, hv, w⟩ := r.at hx
    refine .inr ⟨v, by rw [List.getElem?_map, hv]; rfl, ?_⟩
    cases x with
    | fz b => cases ha; exact w
    | pl i =>
      have ha : (match env[i]? with | some .un => none | o => o) = some o := ha
      have w : σ[i]? = some (some v) := w
      have he : env[i]? = some o ∧ o ≠ .un := by
        cases q : env[i]? with
        | none => rw [q] at ha; cases ha
        | some y =>
          rw [q] at ha
          cases y with
          | un => cases ha
          | fl f => cases ha; exact ⟨rfl, fun z => nomatch z⟩
          | ins c ns fs => cases ha; exact ⟨rfl, fun z => nomatch z⟩
      rcases I.slot i o he.1 with z | ⟨u, hu, q⟩
      · exact (he.2 z).elim
      · rw [w] at hu
        cases hu
        exact OR.sub (fun p h => ⟨i, hx, h⟩) q
    | pf _ _ => cases ha
    | ow _ => cases ha
  · have e := I.dis i j p a b
    subst e
    exact plIdx_inj n hi hj
/-- the state behind a call -/
theorem Rs.called (I : Rs cl kp τ F H fp env σ) {rs : List R} {vs : List V} {os os' : List O} (r : RRs cl F σ rs vs) (a : argOs env rs = some os) (n : (plIdx rs).Nodup) {fp' : Nat → Addr → Prop} {S : Addr → Prop}
    (I' : Rs cl [] (vs.map some) F' H' fp' os' (vs.map some)) (go : Go F H (U (fpArg fp rs)) F' H' (fun p => U fp' p ∨ S p)) (nS : ∀ p, S p → F' p = none ∧ Nt H' p ∧ ¬ U fp' p) :
    ∃ fp2, Rs cl kp τ F' H' fp2 (backO env rs os') σ ∧ Go F H (U fp) F' H' (fun p => U fp2 p ∨ S p) ∧ ∀ p, S p → F' p = none ∧ Nt H' p ∧ ¬ U fp2 p := by
  have ln : os'.length = rs.length := by have := I'.len; rw [List.length_map, r.len] at this; exact this
  have no : ∀ j, j ∉ plIdx rs → ∀ p, fp j p → ¬ U (fpArg fp rs) p := fun j hj p h ⟨k, i, hi, hp⟩ => hj (by rw [I.dis j i p h hp]; exact plIdx_mem hi)
  let fp2 : Nat → Addr → Prop := fun j p => (j ∉ plIdx rs ∧ fp j p) ∨ ∃ k, rs[k]? = some (.pl j) ∧ fp' k p
  have hOld : ∀ j p, j ∉ plIdx rs → fp j p → ¬ U fp' p ∧ ¬ S p := fun j p hj h => by
    obtain ⟨_, _, _, z⟩ := untouched I go (no j hj)
    exact ⟨fun q => z p h (.inl q), fun q => z p h (.inr q)⟩
  refine ⟨fp2, ⟨by rw [backO_len]; exact I.len, fun j o h => ?_, fun j l p a b => ?_, fun j p a => ?_, fun j p a => ?_, I'.le, I.pro, I.tl⟩, ?_, fun p s => ⟨(nS p s).1, (nS p s).2.1, ?_⟩⟩
  · by_cases hj : j ∈ plIdx rs
    · obtain ⟨k, hk⟩ := plIdx_at hj
      have hlen : j < env.length := by have := (List.getElem?_eq_some_iff.mp h).1; rw [backO_len] at this; exact this
      have hk' : k < os'.length := by rw [ln]; exact (List.getElem?_eq_some_iff.mp hk).1
      rw [backO_in n hk hk' hlen] at h
      obtain ⟨v, hv, w⟩ := r.at hk
      have w : σ[j]? = some (some v) := w
      rcases I'.slot k o h with z | ⟨u, hu, q⟩
      · exact .inl z
      · rw [List.getElem?_map, hv] at hu
        cases hu
        exact .inr ⟨v, w, OR.sub (fun p z => .inr ⟨k, hk, z⟩) q⟩
    · rw [backO_out hj] at h
      obtain ⟨s1, _⟩ := untouched I go (no j hj)
      exact (s1 o h).imp id fun ⟨v, a, b⟩ => ⟨v, a, OR.sub (fun p z => .inl ⟨hj, z⟩) b⟩
  · rcases a with ⟨a1, a2⟩ | ⟨k, a1, a2⟩ <;> rcases b with ⟨b1, b2⟩ | ⟨k', b1, b2⟩
    · exact I.dis j l p a2 b2
    · exact ((hOld j p a1 a2).1 ⟨k', b2⟩).elim
    · exact ((hOld l p b1 b2).1 ⟨k, a2⟩).elim
    · have e := I'.dis k k' p a2 b2
      subst e
      rw [a1] at b1
      cases b1
      rfl
  · rcases a with ⟨a1, a2⟩ | ⟨k, a1, a2⟩
    · exact (untouched I go (no j a1)).2.1 p a2
    · exact I'.sep k p a2
  · rcases a with ⟨a1, a2⟩ | ⟨k, a1, a2⟩
    · exact (untouched I go (no j a1)).2.2.1 p a2
    · exact I'.dom k p a2
  · refine (go.wide (V' := U fp) fun p ⟨k, i, _, z⟩ => ⟨i, z⟩).mono (V' := fun p => U fp' p ∨ S p) (fun _ z => z) |> fun g => ⟨g.sF, g.keep, g.new, fun p h => ?_, g.dom, g.ntd⟩
    rcases h with ⟨j, ⟨_, z⟩ | ⟨k, _, z⟩⟩ | z
    · exact .inl ⟨j, z⟩
    · exact g.fpn p (.inl ⟨k, z⟩)
    · exact g.fpn p (.inr z)
  · rintro ⟨j, ⟨a1, a2⟩ | ⟨k, _, a2⟩⟩
    · exact (hOld j p a1 a2).2 s
    · exact (nS p s).2.2 ⟨k, a2⟩
/-- arguments -/
def SR (cl : Nat → Addr) (kp : List Nat) (t : TA) (g : Env → Option (List R × Env)) : Prop :=
  ∀ ⦃τ : L2.St⦄ ⦃F H : Hp⦄ ⦃fp : Nat → Addr → Prop⦄ ⦃env : Env⦄ ⦃σ : L2.St⦄ ⦃Q : List V → Hp → Prop⦄ ⦃rs : List R⦄ ⦃env' : Env⦄, Rs cl kp τ F H fp env σ → g env = some (rs, env') →
    (∀ F' H' fp' vs, Rs cl kp τ F' H' fp' env' σ → Go F H (U fp) F' H' (U fp') → RRs cl F' σ rs vs → Q vs H') → t σ H Q
def gA0 : Env → Option (List R × Env) := fun env => some ([], env)
def gA (ga : G) (gr : Env → Option (List R × Env)) : Env → Option (List R × Env) := fun env => (ga env).bind fun p => if p.1.isPf || p.1.tmp.isOw then none else (gr p.2).map fun q => (p.1.tmp :: q.1, q.2)
theorem sr_nil : SR cl kp tNil gA0 := by
  intro τ F H fp env σ Q rs env' I e k
  cases e
  exact k F H fp [] I Go.refl rfl
theorem sr_cons {pu : Bool} {ta : TE} {tr : TA} {ga : G} {gr : Env → Option (List R × Env)} (ha : SE cl kp pu ta ga) (hr : SR cl kp tr gr) : SR cl kp (tCons ta tr) (gA ga gr) := by
  intro τ F H fp env σ Q rs env' I e k
  obtain ⟨⟨r, e1⟩, h1, e⟩ := Option.bind_eq_some_iff.mp e
  split at e
  case isTrue => cases e
  rename_i c
  obtain ⟨⟨rs', e2⟩, h2, z⟩ := Option.map_eq_some_iff.mp e
  cases z
  have g1 : gT ga env = some (r.tmp, e1) := by unfold gT; rw [h1]; rfl
  refine ha.tmp I g1 fun F1 H1 fp1 S v I1 go1 rr _ => hr I1 h2 fun F2 H2 fp2 vs I2 go2 rrs => ?_
  refine k F2 H2 fp2 (v :: vs) I2 ((go1.mono fun p z => .inl z).trans go2) ?_
  have c : (r.isPf || r.tmp.isOw) = false := by simpa using c
  obtain ⟨c1, c2⟩ := Bool.or_eq_false_iff.mp c
  have c3 : r.tmp.isPf = false := by
    cases r with
    | ow o => show (match o.vw with | some a => R.fz a | none => .ow o).isPf = false; cases o.vw <;> rfl
    | pf i f => cases c1
    | _ => rfl
  generalize r.tmp = r' at rr c2 c3
  cases r' with
  | fz a => exact ⟨v, vs, rfl, Rp.same go2.sF rr, rrs⟩
  | pl i => exact ⟨v, vs, rfl, rr, rrs⟩
  | pf i f => cases c3
  | ow o => cases c2
def callG (f : GF) (rs : List R) (env : Env) : Option (R × Env) := if (plIdx rs).Nodup then (argOs env rs).bind fun os => (f os).map fun p => (p.1.toR, backO env rs p.2) else none
theorem RR.toR {res : O} {v : V} (h : OR cl F H S res v) (n : ∀ p, S p → F p = none ∧ Nt H p ∧ ¬ U fp p) : RR cl F H fp σ res.toR v S := by
  cases res with
  | un => exact ⟨trivial, n⟩
  | ins c ns fs => exact ⟨h, n⟩
  | fl f => cases f <;> first | exact h | exact ⟨h, n⟩
/-- the call itself -/
theorem call_ok {f : GF} {rs : List R} {vs : List V} {r : R} {env' : Env} {Q : VK} {E : XK} (I : Rs cl kp τ F H fp env σ) (rr : RRs cl F σ rs vs) (e : callG f rs env = some (r, env'))
    (k : ∀ F' H' fp' S v, Rs cl kp τ F' H' fp' env' σ → Go F H (U fp) F' H' (fun p => U fp' p ∨ S p) → RR cl F' H' fp' σ r v S → Q v H') : spD cl f vs H Q E := by
  unfold callG at e
  split at e
  case isFalse => cases e
  rename_i n
  obtain ⟨os, ha, e⟩ := Option.bind_eq_some_iff.mp e
  obtain ⟨⟨res, os'⟩, hf, z⟩ := Option.map_eq_some_iff.mp e
  cases z
  refine ⟨F, fpArg fp rs, os, res, os', I.args rr ha n, hf, fun F' H' fp' S v I' go ro nS => ?_⟩
  obtain ⟨fp2, I2, go2, n2⟩ := I.called rr ha n I' go nS
  exact k F' H' fp2 S v I2 go2 (RR.toR ro n2)
def scV : List A → Option (List V)
  | [] => some []
  | x :: xs => x.sc.bind fun v => (scV xs).map (v :: ·)
theorem RRs.app : ∀ {rs : List R} {vs : List V} {ds : List A} {us : List V}, RRs cl F σ rs vs → scV ds = some us → RRs cl F σ (rs ++ ds.map .fz) (vs ++ us)
  | [], _, [], _, h, e => by cases h; cases e; rfl
  | [], _, d :: ds, _, h, e => by
    cases h
    obtain ⟨v, hv, e⟩ := Option.bind_eq_some_iff.mp e
    obtain ⟨us, hu, rfl⟩ := Option.map_eq_some_iff.mp e
    exact ⟨v, us, rfl, Rp.of_sc hv, RRs.app (rs := []) (vs := []) rfl hu⟩
  | .fz a :: rs, _, ds, _, h, e => let ⟨v, r, x, q, z⟩ := h; by subst x; exact ⟨v, _, rfl, q, RRs.app z e⟩
  | .pl i :: rs, _, ds, _, h, e => let ⟨v, r, x, q, z⟩ := h; by subst x; exact ⟨v, _, rfl, q, RRs.app z e⟩
  | .pf _ _ :: _, _, _, _, h, _ => h.elim
  | .ow _ :: _, _, _, _, h, _ => h.elim
/-- f(..) -/
def gCall (f : GF) (ds : List A) (g : Env → Option (List R × Env)) : G := fun env => (g env).bind fun p => callG f (p.1 ++ ds.map .fz) p.2
theorem se_call {f : GF} {ds : List A} {dvs : List V} {E : XK} {t : TA} {g : Env → Option (List R × Env)} (hd : scV ds = some dvs) (h : SR cl kp t g) : SE cl kp false (tCall (spD cl f) dvs E t) (gCall f ds g) := by
  intro τ F H fp env σ Q r env' I e k
  obtain ⟨⟨rs, e1⟩, h1, e⟩ := Option.bind_eq_some_iff.mp e
  exact h I h1 fun F1 H1 fp1 vs I1 go1 rr => call_ok I1 (rr.app hd) e fun F' H' fp' S v I' go' r' => k F' H' fp' S v I' (go1.trans go') r' fun z => nomatch z
/-- o.m(..): the class is c -/
def insOf (c : Nat) (m : Str) : A → Bool
  | .ins c' ns _ => c' == c && !ns.contains m
  | _ => false
def gMeth (c : Nat) (m : Str) (f : GF) (ds : List A) (go : G) (g : Env → Option (List R × Env)) : G := fun env => (go env).bind fun p => if p.1.isPf || p.1.tmp.isOw then none else
  (p.1.tmp.vw p.2).bind fun a => if insOf c m a then (g p.2).bind fun q => callG f (p.1.tmp :: (q.1 ++ ds.map .fz)) q.2 else none
theorem lookup_none {m : Str} : ∀ {ns : List Str} {vs : List V}, ns.contains m = false → (ns.zip vs).lookup m = none
  | [], _, _ => rfl
  | _ :: _, [], _ => rfl
  | n :: ns, v :: vs, h => by
    rw [List.contains_cons] at h
    obtain ⟨a, b⟩ := Bool.or_eq_false_iff.mp h
    rw [List.zip_cons_cons, List.lookup_cons, a]
    exact lookup_none b
theorem se_meth {c : Nat} {m : Str} {f : GF} {ds : List A} {dvs : List V} {E : XK} {pu : Bool} {to : TE} {t : TA} {gt : G} {g : Env → Option (List R × Env)} (hd : scV ds = some dvs) (ho : SE cl kp pu to gt) (h : SR cl kp t g) :
    SE cl kp false (tMeth (cl c) m (spD cl f) dvs E to t) (gMeth c m f ds gt g) := by
  intro τ F H fp env σ Q r env' I e k
  obtain ⟨⟨r0, e1⟩, h1, e⟩ := Option.bind_eq_some_iff.mp e
  split at e
  case isTrue => cases e
  rename_i cc
  obtain ⟨a, ha, e⟩ := Option.bind_eq_some_iff.mp e
  split at e
  case isFalse => cases e
  rename_i hi
  obtain ⟨⟨rs, e2⟩, h2, ez⟩ := Option.bind_eq_some_iff.mp e
  clear e
  have g1 : gT gt env = some (r0.tmp, e1) := by unfold gT; rw [h1]; rfl
  refine ho.tmp I g1 fun F1 H1 fp1 S v I1 go1 rr1 _ => ?_
  have rv := rr1.rv I1 ha
  cases a with
  | ins c' ns xs =>
    obtain ⟨hc, hm⟩ := and_t (show (c' == c && !ns.contains m) = true from hi)
    have hc : c' = c := by simpa using hc
    subst hc
    obtain ⟨p, dx, vs0, rfl, hp, _, _, _⟩ := rv
    refine ⟨p, dx, _, rfl, hp, lookup_none (by simpa using hm), ?_⟩
    refine h I1 h2 fun F2 H2 fp2 vs I2 go2 rr => ?_
    refine call_ok (rs := r0.tmp :: (rs ++ ds.map .fz)) I2 ?_ ez fun F' H' fp' S v I' go' r' => k F' H' fp' S v I' (((go1.mono fun p z => .inl z).trans go2).trans go') r' fun z => nomatch z
    have cc : (r0.isPf || r0.tmp.isOw) = false := by simpa using cc
    obtain ⟨c1, c2⟩ := Bool.or_eq_false_iff.mp cc
    have c3 : r0.tmp.isPf = false := by
      cases r0 with
      | ow o => show (match o.vw with | some a => R.fz a | none => .ow o).isPf = false; cases o.vw <;> rfl
      | pf i f => cases c1
      | _ => rfl
    generalize r0.tmp = r' at rr1 c2 c3
    cases r' with
    | fz a => exact ⟨_, _, rfl, Rp.same go2.sF rr1, rr.app hd⟩
    | pl i => exact ⟨_, _, rfl, rr1, rr.app hd⟩
    | pf i f => cases c3
    | ow o => cases c2
  | _ => cases hi
theorem RpL.rrs : ∀ {as : List A} {vs : List V}, RpL cl F as vs → RRs cl F σ (as.map .fz) vs
  | [], _, h => h
  | _ :: _, _, h => let ⟨v, r, e, q, z⟩ := h; ⟨v, r, e, q, RpL.rrs z⟩
end
section
variable {P : Program} {w : World} {K : PySem.W.Frag} {mg : Str → Option Value} {base : Heap} {cl : Nat → Addr} {Eh : XK}
/-- a def by its body -/
theorem _root_.L2.Fun.okD {x qual : Str} {st : Stmt} {f : Addr} {fd : FuncData} {N ps : List Str} {k : Nat} (F : Fun K x qual st f fd) (S : FnScope N ps (defScope st)) (ra kp : List Nat) (m : Nat) (g : GS)
    (hN : N.length = ps.length + m) (hk : ((List.range ps.length).all fun i => ra.contains i || kp.contains i) = true)
    (body : ∀ (cdv : Value) (A : Around) (outer : List PySem.Env) (s : Shared) (H : Hp) (E : XK), Room k (A.deeper (PyProof.Rows.envOfC qual (defScope st) s.heap.objs.size f cdv)) →
      ∃ t, PSs (cxOf CX0 P w K mg base N qual (defScope st) f cdv A outer s H E).nox (defBody st) t ∧ SS cl kp E t g) : FnOk P w K mg base CX0 (k + 1) f fd ps (spD cl (fnD ra ps.length m g)) := by
  refine F.ok S (fun vs H Q E h => ?_) (fun cdv A outer s H vs Q E hr h => ?_)
  · obtain ⟨F, fp, os, res, os', I, e, _⟩ := h
    obtain ⟨l, _⟩ := fnD_inv e
    have := I.len
    rw [List.length_map] at this
    omega
  · obtain ⟨t, ht, hs⟩ := body cdv A outer s H E hr
    refine ⟨t, ht, body_ok hN (fun i hi hr => ?_) hs h⟩
    have := List.all_eq_true.mp hk i (List.mem_range.mpr hi)
    rcases Bool.or_eq_true_iff.mp this with z | z
    · exact (hr (by simpa using z)).elim
    · simpa using z
end
end Dl
set_option profiler true
set_option profiler.threshold 3000
/-! ## sorted of texts by key=str -/
namespace PyProof.Rows
open PySem
section
variable {prog : Program} {w : World} {A : Around} {E : Value → Shared → Prop} {s : Shared}
end
end PyProof.Rows
namespace Dl
open PySem PySem.Spec L2
section
variable {X : Cx}
end
end Dl
namespace L2
open PySem PySem.Spec PyProof.Rows
/-! ## own operators of an instance with a dict -/
section
variable {X : Cx} {CX : CXT} {k : Nat} {C f : Addr} {fd : FuncData} {ps : List Str} {sp : Sp} {E : XK} {a b : Expr} {ta tb : TE} {pos : Pos}
/-- a op b, both own instances of the class at C -/
def rBin (C : Addr) (sp : Sp) (E : XK) : R2 := fun x y H Q => ∃ a dx fs b dy gs, x = .ref a ∧ y = .ref b ∧ H a = some (.ins C dx fs) ∧ H b = some (.ins C dy gs) ∧ sp [x, y] H Q E
theorem op_bin {op : Operator} (F : FnOk X.prog X.w X.K X.mg X.base CX k f fd ps sp) (hr : Room k X.A) (hb : Binds X.K fd ps []) (hx : Passes CX X E) (hc : PySem.W.selfFirst X.K C = true)
    (hs : PySem.W.findIn X.K (.ref C) (PySem.dunder op.info.2) = some (some (.ref f))) (hfn : PySem.W.isFn X.K (.ref f) = true) : OpR X (binaryOp op) (rBin C sp E) := by
  intro pins s σ H x y v u Q I rx ry h
  obtain ⟨a, dx, fs, b, dy, gs, rfl, rfl, ha, hb', q⟩ := h
  cases (show v = Value.ref a from rx)
  cases (show u = Value.ref b from ry)
  obtain ⟨mA, O, _⟩ := ins_get I.hok ha
  obtain ⟨od, J, _⟩ := O.look
  obtain ⟨mB, O', _⟩ := ins_get I.hok hb'
  obtain ⟨od', J', _⟩ := O'.look
  obtain ⟨m, hF⟩ := I.fr
  refine PySem.W.binop_K hF I.ok.mod.kin J J'.type hc hs hfn ?_
  refine wpAny_mono (run_fn (us := [.ref a, .ref b]) (vs := [.ref a, .ref b]) F hr hb .nil hx I (.cons rfl (.cons rfl .nil)) q) (fun w s' z => ?_) fun _ _ x => x
  obtain ⟨z', H', I', rz, qz⟩ := z
  exact SlX.cmpback rz ⟨z', H', I', rz, qz⟩
end
end L2
namespace L2
open PySem PySem.Spec PyProof.Rows
section
variable {X : Cx} {CX : CXT} {k : Nat} {C f : Addr} {fd : FuncData} {ps : List Str} {sp : Sp} {E : XK}
end
end L2
namespace L2
open PySem PySem.Spec PyProof.Rows
/-! ## x in o, x not in o: o an own instance of the class at C -/
section
variable {X : Cx} {CX : CXT} {k : Nat} {C f : Addr} {fd : FuncData} {ps : List Str} {sp : Sp} {E : XK}
end
end L2
namespace Dl
open PySem PySem.Spec L2
/-! ## sorted of texts -/
def strs? : List A → Option (List Str)
  | [] => some []
  | .str s :: xs => (strs? xs).map (s :: ·)
  | _ :: _ => none
section
variable {cl : Nat → Addr} {kp : List Nat} {τ σ : L2.St} {F F' H H' : Hp} {fp : Nat → Addr → Prop} {env : Env} {S : Addr → Prop} {K : PySem.W.Frag}
/-! ## own operators -/
def A.isIns (c : Nat) : A → Bool
  | .ins c' _ _ => c' == c
  | _ => false
theorem Rv.ins {c : Nat} {a : A} {v : V} (h : Rv cl F H a v) (e : a.isIns c = true) : ∃ p dx fs, v = .ref p ∧ H p = some (.ins (cl c) dx fs) := by
  cases a with
  | ins c' ns xs =>
    have e : (c' == c) = true := e
    have e : c' = c := by simpa using e
    subst e
    obtain ⟨p, dx, vs, rfl, q, _⟩ := h
    exact ⟨p, dx, _, rfl, q⟩
  | _ => cases e
theorem RRs.rv (I : Rs cl kp τ F H fp env σ) : ∀ {rs : List R} {vs : List V} {i : Nat} {r : R} {v : V} {a : A}, RRs cl F σ rs vs → rs[i]? = some r → vs[i]? = some v → r.vw env = some a → Rv cl F H a v := fun {rs vs i r v a} h hr hv e => by
  obtain ⟨u, hu, w⟩ := h.at hr
  rw [hv] at hu
  cases hu
  cases r with
  | fz b => exact RR.rv (S := fun _ => False) I (show RR cl F H fp σ (.fz b) v _ from w) e
  | pl j => exact RR.rv (S := fun _ => False) I (show RR cl F H fp σ (.pl j) v _ from w) e
  | pf _ _ => exact w.elim
  | ow _ => exact w.elim
/-- both operands, then an own def -/
def gOp2 (cond : A → A → Bool) (sw : Bool) (f : GF) (ga gb : G) : G := fun env => (gA ga (gA gb gA0) env).bind fun p => match p.1 with
  | [r1, r2] => (r1.vw p.2).bind fun a => (r2.vw p.2).bind fun b => if cond a b then callG f (if sw then [r2, r1] else [r1, r2]) p.2 else none
  | _ => none
theorem se_op2 {f : GF} {cond : A → A → Bool} {sw : Bool} {E : XK} {r : R2} {pa pb : Bool} {ta tb : TE} {ga gb : G}
    (hr : ∀ {F H : Hp} {x y : V} {a b : A} {Q : VK}, Same F H → Rv cl F H a x → Rv cl F H b y → cond a b = true → spD cl f (if sw then [y, x] else [x, y]) H Q E → r x y H Q) (ha : SE cl kp pa ta ga) (hb : SE cl kp pb tb gb) :
    SE cl kp false (tOp r ta tb) (gOp2 cond sw f ga gb) := by
  intro τ F H fp env σ Q z env' I e k
  obtain ⟨⟨rs, e2⟩, e1, e⟩ := Option.bind_eq_some_iff.mp e
  show tCons ta (tCons tb tNil) σ H fun vs H2 => r (vs.headD .non) (vs.tail.headD .non) H2 Q
  refine sr_cons ha (sr_cons hb (sr_nil (cl := cl) (kp := kp))) I e1 fun F' H' fp' vs I' go rr => ?_
  match rs, e with
  | [r1, r2], e =>
    obtain ⟨a, wa, e⟩ := Option.bind_eq_some_iff.mp (show ((r1.vw e2).bind fun a => (r2.vw e2).bind fun b => if cond a b then callG f (if sw then [r2, r1] else [r1, r2]) e2 else none) = some (z, env') from e)
    obtain ⟨b, wb, e⟩ := Option.bind_eq_some_iff.mp e
    split at e
    case isFalse => cases e
    rename_i hc
    have hl := rr.len
    match vs, hl with
    | [x, y], _ =>
      have rx := rr.rv I' (i := 0) rfl rfl wa
      have ry := rr.rv I' (i := 1) rfl rfl wb
      refine hr I'.le rx ry hc ?_
      cases sw with
      | false => exact call_ok I' rr e fun F2 H2 fp2 S v I2 go2 r' => k F2 H2 fp2 S v I2 (go.trans go2) r' fun z => nomatch z
      | true =>
        have rr' : RRs cl F' σ [r2, r1] [y, x] := by
          obtain ⟨v1, h1, w1⟩ := rr.at (k := 0) (r := r1) rfl
          obtain ⟨v2, h2, w2⟩ := rr.at (k := 1) (r := r2) rfl
          cases h1
          cases h2
          cases r1 <;> cases r2 <;> first | exact ⟨_, _, rfl, w2, _, _, rfl, w1, rfl⟩ | exact w1.elim | exact w2.elim
        exact call_ok I' rr' e fun F2 H2 fp2 S v I2 go2 r' => k F2 H2 fp2 S v I2 (go.trans go2) r' fun z => nomatch z
/-- a op b, both of the class c -/
def bothIns (c : Nat) (a b : A) : Bool := a.isIns c && b.isIns c
theorem se_bin {c : Nat} {f : GF} {E : XK} {pa pb : Bool} {ta tb : TE} {ga gb : G} (ha : SE cl kp pa ta ga) (hb : SE cl kp pb tb gb) : SE cl kp false (tOp (rBin (cl c) (spD cl f) E) ta tb) (gOp2 (bothIns c) false f ga gb) :=
  se_op2 (fun {F H x y a b Q} s ra rb hc sp => by
    obtain ⟨h1, h2⟩ := and_t hc
    obtain ⟨p, dx, fs, rfl, hp⟩ := ra.ins h1
    obtain ⟨q, dy, gs, rfl, hq⟩ := rb.ins h2
    exact ⟨p, dx, fs, q, dy, gs, rfl, rfl, hp, hq, sp⟩) ha hb
/-- a[b], a of the class c -/
def leftIns (c : Nat) (a _b : A) : Bool := a.isIns c
/-- a in b, b of the class c, whose def gives True or False -/
def rightIns (c : Nat) (_a b : A) : Bool := b.isIns c
def negR (neg : Bool) : R → Option R
  | .fz (.bl b) => some (.fz (.bl (if neg then !b else b)))
  | _ => none
def gInO (c : Nat) (neg : Bool) (f : GF) (ga gb : G) : G := fun env => (gOp2 (rightIns c) true f ga gb env).bind fun p => (negR neg p.1).map fun r => (r, p.2)
/-- ~a -/
def gOp1 (cond : A → Bool) (f : GF) (ga : G) : G := fun env => (gA ga gA0 env).bind fun p => match p.1 with
  | [r1] => (r1.vw p.2).bind fun a => if cond a then callG f [r1] p.2 else none
  | _ => none
/-! ## fields -/
def fldR (i : Nat) (n : Str) : Fl → R
  | .fz a => .fz a
  | _ => .pf i n
def gFld (c : Nat) (n : Str) (g : G) : G := fun env => (g env).bind fun p => match p.1.tmp with
  | .fz (.ins c' ns xs) => if c' = c then ((ns.zip xs).lookup n).map fun a => (.fz a, p.2) else none
  | .pl i => match p.2[i]? with
    | some (.ins c' ns fs) => if c' = c then (fld ns fs n).map fun f => (fldR i n f, p.2) else none
    | _ => none
  | _ => none
theorem zip_lookup3 {f : Str} {β γ : Type} : ∀ {ns : List Str} {vs : List β} {fs : List γ} {x : γ}, vs.length = fs.length → (ns.zip fs).lookup f = some x → ∃ v, ∃ j : Nat, (ns.zip vs).lookup f = some v ∧ vs[j]? = some v ∧ fs[j]? = some x
  | [], _, _, _, _, h => by simp at h
  | _ :: _, _, [], _, _, h => by simp at h
  | _ :: _, [], _ :: _, _, l, _ => by simp at l
  | n :: ns, w :: vs, y :: fs, x, l, h => by
    rw [List.zip_cons_cons, List.lookup_cons] at h
    rw [List.zip_cons_cons, List.lookup_cons]
    by_cases e : (f == n) = true
    · rw [e] at h ⊢
      exact ⟨w, 0, rfl, rfl, h⟩
    · have e : (f == n) = false := by simpa using e
      rw [e] at h ⊢
      obtain ⟨v, j, a, b, d⟩ := zip_lookup3 (vs := vs) (by simpa using l) h
      exact ⟨v, j + 1, a, by simpa using b, by simpa using d⟩
theorem se_fld {c : Nat} {n : Str} {pu : Bool} {t : TE} {g : G} (hc : Cls K (cl c)) (hn : NoAttr K (cl c) n) (h : SE cl kp pu t g) : SE cl kp pu (tFld K t n) (gFld c n g) := by
  intro τ F H fp env σ Q r env' I e k
  obtain ⟨⟨r0, e1⟩, h1, ez⟩ := Option.bind_eq_some_iff.mp e
  clear e
  have g1 : gT g env = some (r0.tmp, e1) := by unfold gT; rw [h1]; rfl
  refine h.tmp I g1 fun F1 H1 fp1 S v I1 go rr pu1 => ?_
  have go' := go.mono (V' := U fp1) fun p z => .inl z
  have go0 : Go F H (U fp) F1 H1 (fun p => U fp1 p ∨ False) := go'.mono fun p z => z.elim id False.elim
  simp only at ez
  split at ez
  · rename_i c' ns xs hr
    split at ez
    case isFalse => cases ez
    rename_i ec
    subst ec
    obtain ⟨a, ha, z⟩ := Option.map_eq_some_iff.mp ez
    cases z
    rw [hr] at rr
    obtain ⟨p, dx, vs, rfl, hp, hd, hl, rl⟩ := rr
    obtain ⟨u, j, l1, l2, l3⟩ := zip_lookup3 (vs := vs) rl.length ha
    obtain ⟨u', h2, ru⟩ := rl.at l3
    rw [l2] at h2
    cases h2
    exact ⟨p, cl c', dx, _, u, rfl, I1.le _ _ hp, hc, hn, l1, k F1 H1 fp1 (fun _ => False) u I1 go0 ru pu1⟩
  · rename_i i hr
    rw [hr] at rr
    split at ez
    · rename_i c' ns fs he
      split at ez
      case isFalse => cases ez
      rename_i ec
      subst ec
      obtain ⟨f, hf, z⟩ := Option.map_eq_some_iff.mp ez
      cases z
      obtain ⟨w, hw, q⟩ := I1.at he rfl
      have rr : σ[i]? = some (some v) := rr
      rw [rr] at hw
      cases hw
      obtain ⟨p, dx, vs, T, rfl, sp, sd, hp, hd, z, z', rl, _, _⟩ := q
      obtain ⟨u, j, l1, l2, l3⟩ := zip_lookup3 (vs := vs) z' hf
      refine ⟨p, cl c', dx, _, u, rfl, hp, hc, hn, l1, k F1 H1 fp1 (fun _ => False) u I1 go0 ?_ pu1⟩
      have fr := rl j f u l3 l2
      cases f with
      | fz a => exact fr
      | lst xs => exact ⟨p, cl c', dx, _, rr, hp, l1⟩
      | dK ks xs => exact ⟨p, cl c', dx, _, rr, hp, l1⟩
      | dT ks xs => exact ⟨p, cl c', dx, _, rr, hp, l1⟩
    · cases ez
  · cases ez
end
end Dl
namespace Dl
open PySem PySem.Spec L2
/-! ## what is owned is changed -/
def Fl.isL : Fl → Bool
  | .lst _ => true | _ => false
def MtP (cl : Nat → Addr) (r : V → List V → Hp → VK → Prop) (f : Fl → List A → Option (Fl × A)) : Prop := ∀ ⦃F H : Hp⦄ ⦃p : Addr⦄ ⦃o : HO⦄ ⦃fl fl' : Fl⦄ ⦃as : List A⦄ ⦃vs : List V⦄ ⦃a : A⦄ ⦃Q : VK⦄, Same F H → H p = some o → FlO cl F fl o → RpL cl F as vs →
  f fl as = some (fl', a) → (∀ o' v, FlO cl F fl' o' → Rp cl F a v → Q v (upd H p o')) → r (.ref p) vs H Q
def gPlc (f : Fl → List A → Option (Fl × A)) (pa : Bool) (g : G) (ga : Env → Option (List A × Env)) : G := fun env => (g env).bind fun p => (getP p.2 p.1).bind fun f0 => if f0.isL && (!p.1.isPf || pa) then
  (ga p.2).bind fun q => (getP q.2 p.1).bind fun fl => if fl.own then (f fl q.1).map fun z => (.fz z.2, putP q.2 p.1 z.1) else none
  else none
section
variable {cl : Nat → Addr} {kp : List Nat} {τ σ : L2.St} {F F' H H' : Hp} {fp : Nat → Addr → Prop} {env : Env} {S : Addr → Prop} {K : PySem.W.Frag} {Eh : XK}
theorem getP_ow {r : R} {f : Fl} (e : getP env r = some f) : r.isOw = false := by
  cases r <;> first | rfl | cases e
theorem isL_inv {f : Fl} (h : f.isL = true) : ∃ xs, f = .lst xs := by
  cases f <;> first | exact ⟨_, rfl⟩ | cases h
theorem tyV_list {x : V} {f : Fl} {r : R} (I : Rs cl kp τ F H fp env σ) (rr : RR cl F H fp σ r x S) (e : getP env r = some f) (hl : f.isL = true) : tyV K "list" x H := by
  obtain ⟨xs, rfl⟩ := isL_inv hl
  obtain ⟨p, o, rfl, hp, ⟨vs, rfl, _⟩, _⟩ := place_ok I rr e rfl
  exact .inl ⟨rfl, vs, SqL.of hp⟩
theorem se_plc {pu pa : Bool} {t : TE} {ta : TA} {g : G} {ga : Env → Option (List A × Env)} {r : V → List V → Hp → VK → Prop} {f : Fl → List A → Option (Fl × A)} (hr : MtP cl r f) (h : SE cl kp pu t g) (ha : SA cl kp pa ta ga) :
    SE cl kp false (tBM K "list" r t ta) (gPlc f pa g ga) := by
  intro τ F H fp env σ Q z env' I e k
  obtain ⟨⟨r0, e1⟩, h1, e⟩ := Option.bind_eq_some_iff.mp e
  obtain ⟨f0, hf0, e⟩ := Option.bind_eq_some_iff.mp e
  split at e
  case isFalse => cases e
  rename_i c
  obtain ⟨c1, c2⟩ := and_t c
  obtain ⟨⟨as, e2⟩, h2, e⟩ := Option.bind_eq_some_iff.mp e
  obtain ⟨fl, hfl, e⟩ := Option.bind_eq_some_iff.mp e
  split at e
  case isFalse => cases e
  rename_i ow
  obtain ⟨⟨fl', a⟩, hf, z⟩ := Option.map_eq_some_iff.mp e
  cases z
  refine h I h1 fun F1 H1 fp1 S x I1 go1 rr1 _ => ⟨tyV_list I1 rr1 hf0 c1, ?_⟩
  refine ha I1 h2 fun F2 H2 fp2 vs I2 go2 rl pu2 => ?_
  have rr2 : RR cl F2 H2 fp2 σ r0 x S := rr1.keep (getP_ow hf0) go2.sF fun z => by
    have : pa = true := by
      rw [z] at c2
      exact c2
    exact (pu2 this).2.2
  obtain ⟨p, o, rfl, hp, ho, put⟩ := place_ok I2 rr2 hfl ow
  refine hr I2.le hp ho rl hf fun o' v ho' rv => ?_
  obtain ⟨I3, go3⟩ := put fl' o' ho'
  exact k _ _ fp2 (fun _ => False) v I3 ((((go1.mono fun p z => .inl z).trans go2).trans go3).mono fun q z => z.elim id False.elim) rv fun z => nomatch z
def pAppend : Fl → List A → Option (Fl × A)
  | .lst xs, [a] => if xs.length < sizeLine then some (.lst (xs ++ [a]), .non) else none
  | _, _ => none
def pReverse : Fl → List A → Option (Fl × A)
  | .lst xs, [] => some (.lst xs.reverse, .non)
  | _, _ => none
theorem mp_append : MtP cl rAppend pAppend := by
  intro F H p o fl fl' as vs a Q s hp ho rl e k
  unfold pAppend at e
  split at e
  · split at e
    · rename_i xs x c
      cases e
      obtain ⟨ws, rfl, rw'⟩ := ho
      obtain ⟨v, r, rfl, rv, rfl⟩ := rl
      exact ⟨p, ws, v, rfl, rfl, hp, by rw [rw'.length]; exact c, k _ .non ⟨_, rfl, rw'.app (RpL.one rv)⟩ rfl⟩
    · cases e
  · cases e
theorem RpL.reverse : ∀ {xs : List A} {vs : List V}, RpL cl F xs vs → RpL cl F xs.reverse vs.reverse
  | [], _, h => by cases h; exact rfl
  | _ :: _, _, h => by
    obtain ⟨v, r, rfl, q, z⟩ := h
    rw [List.reverse_cons, List.reverse_cons]
    exact z.reverse.app (RpL.one q)
/-- xs[i] = e -/
def gSetI (pi : Bool) (gv : Env → Option (A × Env)) (g gi : G) : GS := fun env => (gv env).bind fun p => (g p.2).bind fun q => if (!q.1.isPf || pi) then (gOne gi q.2).bind fun z => (getP z.2 q.1).bind fun fl => match fl, z.1 with
    | .lst xs, .int k => (ixN xs.length k).map fun j => (.nx, putP z.2 q.1 (.lst (xs.set j p.1)))
    | _, _ => none
  else none
theorem ss_setI {pv pu pi : Bool} {tv to ti : TE} {gv : Env → Option (A × Env)} {g gi : G} (hv : SF cl kp pv tv gv) (ho : SE cl kp pu to g) (hi : SE cl kp pi ti gi) : SS cl kp Eh (tAsg tv (gSub to ti rSetL)) (gSetI pi gv g gi) := by
  intro τ F H fp env σ D f env' I e k
  obtain ⟨⟨a, e1⟩, h1, e⟩ := Option.bind_eq_some_iff.mp e
  obtain ⟨⟨r0, e2⟩, h2, e⟩ := Option.bind_eq_some_iff.mp e
  split at e
  case isFalse => cases e
  rename_i c
  obtain ⟨⟨ix, e3⟩, h3, e⟩ := Option.bind_eq_some_iff.mp e
  obtain ⟨fl, hfl, e⟩ := Option.bind_eq_some_iff.mp e
  refine hv I h1 fun F1 H1 fp1 v I1 go1 ra _ => ?_
  refine ho I1 h2 fun F2 H2 fp2 S x I2 go2 rr2 _ => ?_
  refine se_one (W := fun i H3 => rSetL x i v H3 fun H4 => D.nx σ H4) hi I2 h3 fun F3 H3 fp3 y I3 go3 ry pu3 => ?_
  have rr3 : RR cl F3 H3 fp3 σ r0 x S := rr2.keep (getP_ow hfl) go3.sF fun z => by
    have : pi = true := by rw [z] at c; exact c
    exact (pu3 this).2.2
  cases fl with
  | lst xs =>
    cases ix with
    | int n =>
      obtain ⟨j, hj, z⟩ := Option.map_eq_some_iff.mp (show (ixN xs.length n).map (fun j => (Fo.nx, putP e3 r0 (.lst (xs.set j a)))) = some (f, env') from e)
      cases z
      obtain ⟨p, o, rfl, hp, ⟨ws, rfl, rw'⟩, put⟩ := place_ok I3 rr3 hfl rfl
      have go23 := (go2.mono fun p z => .inl z).trans go3
      obtain ⟨I4, go4⟩ := put (.lst (xs.set j a)) (.lst (ws.set j v)) ⟨_, rfl, rw'.set (Rp.same go23.sF ra) j⟩
      exact ⟨p, ws, n, j, rfl, ry, hp, by rw [rw'.length]; exact hj, k F3 _ fp3 σ I4 ((go1.trans go23).trans go4)⟩
    | _ => cases e
  | _ => cases e
/-! ## dicts -/
def putZ {κ β : Type} [DecidableEq κ] : List κ → List β → κ → β → List κ × List β
  | k :: ks, x :: xs, q, y => if k = q then (k :: ks, y :: xs) else ((k :: (putZ ks xs q y).1), x :: (putZ ks xs q y).2)
  | _, _, q, y => ([q], [y])
theorem putK_zip {κ : Type} [DecidableEq κ] : ∀ {ks : List κ} {vs : List V} {q : κ} {v : V}, ks.Nodup → ks.length = vs.length → putK (ks.zip vs) q v = (putZ ks vs q v).1.zip (putZ ks vs q v).2
  | [], [], q, v, _, _ => rfl
  | [], _ :: _, _, _, _, e => by cases e
  | _ :: _, [], _, _, _, e => by cases e
  | k :: ks, x :: vs, q, v, nd, e => by
    obtain ⟨n1, n2⟩ := List.nodup_cons.mp nd
    have ih := putK_zip (q := q) (v := v) n2 (show ks.length = vs.length by simpa using e)
    by_cases c : k = q
    · subst c
      have e1 : putZ (k :: ks) (x :: vs) k v = (k :: ks, v :: vs) := by unfold putZ; rw [if_pos rfl]
      rw [e1]
      unfold putK
      rw [if_pos (by simp)]
      simp only [List.zip_cons_cons, List.map_cons, if_true, List.cons.injEq, true_and]
      conv => rhs; rw [← List.map_id (ks.zip vs)]
      refine List.map_congr_left fun p hp => ?_
      have : p.1 ∈ ks := (List.of_mem_zip hp).1
      rw [if_neg (fun z => n1 (by rw [← z]; exact this))]
      rfl
    · have e1 : putZ (k :: ks) (x :: vs) q v = (k :: (putZ ks vs q v).1, x :: (putZ ks vs q v).2) := by
        conv => lhs; unfold putZ
        rw [if_neg c]
      rw [e1, List.zip_cons_cons]
      show _ = (k, x) :: (putZ ks vs q v).1.zip (putZ ks vs q v).2
      rw [← ih]
      unfold putK
      simp only [List.zip_cons_cons, List.any_cons, decide_eq_false c, Bool.false_or, List.map_cons, if_neg c, List.cons_append]
      by_cases b : ((ks.zip vs).any fun kv => decide (kv.1 = q)) = true
      · rw [if_pos b, if_pos b]
      · rw [if_neg b, if_neg b]
theorem putZ_fst {κ β γ : Type} [DecidableEq κ] {q : κ} {y : β} {z : γ} : ∀ {ks : List κ} {xs : List β} {vs : List γ}, ks.length = xs.length → ks.length = vs.length → (putZ ks xs q y).1 = (putZ ks vs q z).1
  | [], [], [], _, _ => rfl
  | k :: ks, x :: xs, v :: vs, h, g => by
    unfold putZ
    by_cases c : k = q
    · rw [if_pos c, if_pos c]
    · rw [if_neg c, if_neg c]
      exact congrArg (k :: ·) (putZ_fst (by simpa using h) (by simpa using g))
  | [], _ :: _, _, h, _ => by cases h
  | [], [], _ :: _, _, g => by cases g
  | _ :: _, [], _, h, _ => by cases h
  | _ :: _, _ :: _, [], _, g => by cases g
theorem putZ_len {κ β : Type} [DecidableEq κ] {q : κ} {y : β} : ∀ {ks : List κ} {xs : List β}, ks.length = xs.length → (putZ ks xs q y).1.length = (putZ ks xs q y).2.length
  | [], [], _ => rfl
  | k :: ks, x :: xs, h => by
    unfold putZ
    by_cases c : k = q
    · rw [if_pos c]; exact h
    · rw [if_neg c]
      simp only [List.length_cons]
      rw [putZ_len (by simpa using h)]
  | [], _ :: _, h => by cases h
  | _ :: _, [], h => by cases h
theorem putZ_rp {κ : Type} [DecidableEq κ] {q : κ} {a : A} {v : V} (r : Rp cl F a v) : ∀ {ks : List κ} {xs : List A} {vs : List V}, ks.length = xs.length → RpL cl F xs vs → RpL cl F (putZ ks xs q a).2 (putZ ks vs q v).2
  | [], [], _, _, h => by cases h; exact RpL.one r
  | [], _ :: _, _, e, _ => by cases e
  | _ :: _, [], _, e, _ => by cases e
  | k :: ks, x :: xs, _, e, h => by
    obtain ⟨u, us, rfl, ru, z⟩ := h
    unfold putZ
    by_cases c : k = q
    · rw [if_pos c, if_pos c]; exact ⟨v, us, rfl, r, z⟩
    · rw [if_neg c, if_neg c]
      exact ⟨u, _, rfl, ru, putZ_rp r (by simpa using e) z⟩
def putD (fl : Fl) (k a : A) : Option Fl := match fl with
  | .dK ks xs => (keyA k).bind fun q => if ks.Nodup ∧ ks.length < sizeLine then some (.dK (putZ ks xs q a).1 (putZ ks xs q a).2) else none
  | .dT ks xs => (match k with | .tup l => keysA l | _ => none).bind fun q => if ks.Nodup ∧ ks.length < sizeLine then some (.dT (putZ ks xs q a).1 (putZ ks xs q a).2) else none
  | _ => none
theorem putD_ok {fl fl' : Fl} {k a : A} {p : Addr} {o : HO} {y v : V} (s : Same F H) (hp : H p = some o) (ho : FlO cl F fl o) (rk : Rv cl F H k y) (ra : Rp cl F a v) (e : putD fl k a = some fl') : ∃ o', DPut H p y v (upd H p o') ∧ FlO cl F fl' o' := by
  unfold putD at e
  split at e
  · rename_i ks xs
    obtain ⟨q, hq, e⟩ := Option.bind_eq_some_iff.mp e
    split at e
    case isFalse => cases e
    rename_i c
    cases e
    obtain ⟨vs, rfl, z, r⟩ := ho
    have lv : ks.length = vs.length := by rw [z, r.length]
    rw [keyA_kV rk hq]
    refine ⟨_, DPut.k hp (by rw [List.length_zip, ← lv, Nat.min_self]; exact c.2), ?_⟩
    rw [putK_zip c.1 lv]
    exact ⟨(putZ ks vs q v).2, by rw [putZ_fst (y := a) (z := v) z lv], putZ_len z, putZ_rp ra z r⟩
  · rename_i ks xs
    obtain ⟨q, hq, e⟩ := Option.bind_eq_some_iff.mp e
    split at e
    case isFalse => cases e
    rename_i c
    cases e
    obtain ⟨vs, rfl, z, r⟩ := ho
    have lv : ks.length = vs.length := by rw [z, r.length]
    cases k with
    | tup l =>
      obtain ⟨b, us, rfl, hb, ru⟩ := rk
      rw [keysA_kV ru (show keysA l = some q from hq)] at hb
      refine ⟨_, DPut.t hp (s _ _ hb) (by rw [List.length_zip, ← lv, Nat.min_self]; exact c.2), ?_⟩
      rw [putK_zip c.1 lv]
      exact ⟨(putZ ks vs q v).2, by rw [putZ_fst (y := a) (z := v) z lv], putZ_len z, putZ_rp ra z r⟩
    | _ => cases hq
  · cases e
def gDPut (pk : Bool) (gv : Env → Option (A × Env)) (g gk : G) : GS := fun env => (gv env).bind fun p => (g p.2).bind fun q => if (!q.1.isPf || pk) then (gOne gk q.2).bind fun z => (getP z.2 q.1).bind fun fl => (putD fl z.1 p.1).map fun fl' => (.nx, putP z.2 q.1 fl')
  else none
theorem putD_own {fl fl' : Fl} {k a : A} (e : putD fl k a = some fl') : fl.own = true := by
  cases fl <;> first | rfl | cases e
theorem ss_dput {pv pu pk : Bool} {tv to tk : TE} {gv : Env → Option (A × Env)} {g gk : G} (hv : SF cl kp pv tv gv) (ho : SE cl kp pu to g) (hk : SE cl kp pk tk gk) : SS cl kp Eh (sDPut to tk tv) (gDPut pk gv g gk) := by
  intro τ F H fp env σ D f env' I e k
  obtain ⟨⟨a, e1⟩, h1, e⟩ := Option.bind_eq_some_iff.mp e
  obtain ⟨⟨r0, e2⟩, h2, e⟩ := Option.bind_eq_some_iff.mp e
  split at e
  case isFalse => cases e
  rename_i c
  obtain ⟨⟨ky, e3⟩, h3, e⟩ := Option.bind_eq_some_iff.mp e
  obtain ⟨fl, hfl, e⟩ := Option.bind_eq_some_iff.mp e
  obtain ⟨fl', hp', z⟩ := Option.map_eq_some_iff.mp e
  cases z
  refine hv I h1 fun F1 H1 fp1 v I1 go1 ra _ => ?_
  refine ho I1 h2 fun F2 H2 fp2 S x I2 go2 rr2 _ => ?_
  refine se_one (W := fun y H3 => ∃ a H4, x = .ref a ∧ DPut H3 a y v H4 ∧ D.nx σ H4) hk I2 h3 fun F3 H3 fp3 y I3 go3 ry pu3 => ?_
  have rr3 : RR cl F3 H3 fp3 σ r0 x S := rr2.keep (getP_ow hfl) go3.sF fun z => by
    have : pk = true := by rw [z] at c; exact c
    exact (pu3 this).2.2
  obtain ⟨p, o, rfl, hp, hoo, put⟩ := place_ok I3 rr3 hfl (putD_own hp')
  have go23 := (go2.mono fun p z => .inl z).trans go3
  obtain ⟨o', dp, fo⟩ := putD_ok I3.le hp hoo ry (Rp.same go23.sF ra) hp'
  obtain ⟨I4, go4⟩ := put fl' o' fo
  exact ⟨p, _, rfl, dp, k F3 _ fp3 σ I4 ((go1.trans go23).trans go4)⟩
def dropZ {κ β : Type} [DecidableEq κ] : List κ → List β → κ → List κ × List β
  | k :: ks, x :: xs, q => if k = q then dropZ ks xs q else (k :: (dropZ ks xs q).1, x :: (dropZ ks xs q).2)
  | _, _, _ => ([], [])
def gDDel (pk : Bool) (g gk : G) : GS := fun env => (g env).bind fun q => if (!q.1.isPf || pk) then (gOne gk q.2).bind fun z => (getP z.2 q.1).bind fun fl => match fl with
    | .dK ks xs => (keyA z.1).bind fun q' => if (valA ks xs q').isSome then some (.nx, putP z.2 q.1 (.dK (dropZ ks xs q').1 (dropZ ks xs q').2)) else none
    | _ => none
  else none
/-- {} -/
def gDNew (o : Fl) : G := fun env => some (.ow (.fl o), env)
/-! ## x += e -/
end
end Dl
namespace Dl
open PySem PySem.Spec L2
section
variable {cl : Nat → Addr} {kp : List Nat} {τ σ : L2.St} {F F' H H' : Hp} {fp : Nat → Addr → Prop} {env : Env} {S : Addr → Prop} {K : PySem.W.Frag} {Eh : XK}
/-! ## o.f = e -/
theorem putF_zip : ∀ {ns : List Str} {vs : List V} {n : Str} {v : V}, ns.length = vs.length → putF n v (ns.zip vs) = (putZ ns vs n v).1.zip (putZ ns vs n v).2
  | [], [], n, v, _ => rfl
  | [], _ :: _, _, _, e => by cases e
  | _ :: _, [], _, _, e => by cases e
  | m :: ns, x :: vs, n, v, e => by
    have ih := putF_zip (n := n) (v := v) (show ns.length = vs.length by simpa using e)
    rw [List.zip_cons_cons]
    show (if m = n then (m, v) :: ns.zip vs else (m, x) :: putF n v (ns.zip vs)) = _
    unfold putZ
    by_cases c : m = n
    · rw [if_pos c, if_pos c]; rfl
    · rw [if_neg c, if_neg c, ih]; rfl
def posZ (ns : List Str) (n : Str) : Nat := ns.findIdx (fun m => decide (m = n))
theorem putZ_at {β : Type} {n : Str} {y : β} : ∀ {ns : List Str} {xs : List β} {j : Nat} {f : β}, ns.length = xs.length → (putZ ns xs n y).2[j]? = some f → (j = posZ ns n ∧ f = y) ∨ (j ≠ posZ ns n ∧ xs[j]? = some f)
  | [], [], j, f, _, h => by
    unfold putZ at h
    cases j with
    | zero => exact .inl ⟨rfl, (Option.some.inj h).symm⟩
    | succ j => simp at h
  | [], _ :: _, _, _, e, _ => by cases e
  | _ :: _, [], _, _, e, _ => by cases e
  | m :: ns, x :: xs, j, f, e, h => by
    unfold putZ at h
    unfold posZ
    rw [List.findIdx_cons]
    by_cases c : m = n
    · rw [if_pos c] at h
      simp only [c, decide_true, cond_true]
      cases j with
      | zero => exact .inl ⟨rfl, (Option.some.inj h).symm⟩
      | succ j => exact .inr ⟨by omega, by simpa using h⟩
    · rw [if_neg c] at h
      simp only [decide_eq_false c, cond_false]
      cases j with
      | zero => exact .inr ⟨by omega, h⟩
      | succ j =>
        rcases putZ_at (show ns.length = xs.length by simpa using e) (show (putZ ns xs n y).2[j]? = some f by simpa using h) with ⟨a, b⟩ | ⟨a, b⟩
        · exact .inl ⟨by rw [a]; rfl, b⟩
        · exact .inr ⟨fun z => a (by unfold posZ; simpa using z), by simpa using b⟩
/-- the value of a field -/
def toFl : R → Env → Option (Fl × Env)
  | .ow (.fl f), env => some (f, env)
  | r, env => (r.settle false env).map fun p => (.fz p.1, p.2)
def gSetF (i c : Nat) (n : Str) (g : G) : GS := fun env => (g env).bind fun p => (toFl p.1 p.2).bind fun q => match q.2[i]? with
  | some (.ins c' ns fs) => if c' = c ∧ ns.length = fs.length ∧ fs.length < 1000 then some (.nx, q.2.set i (.ins c (putZ ns fs n q.1).1 (putZ ns fs n q.1).2)) else none
  | _ => none
theorem ss_fld {i c : Nat} {n : Str} {pu : Bool} {t : TE} {g : G} (hc : Cls K (cl c)) (hn : NoAttr K (cl c) n) (h : SE cl kp pu t g) : SS cl kp Eh (sFld K (tVar i) t n) (gSetF i c n g) := by
  intro τ F H fp env σ D fo env' I e k
  obtain ⟨⟨r, e1⟩, h1, e⟩ := Option.bind_eq_some_iff.mp e
  obtain ⟨⟨f, e2⟩, h2, e⟩ := Option.bind_eq_some_iff.mp e
  simp only at e
  refine h I h1 fun F1 H1 fp1 S y I1 go1 rr _ => ?_
  -- the value, owned by nobody yet
  obtain ⟨F2, fp2, S2, I2, go2, fr, nS⟩ : ∃ F2 fp2 S2, Rs cl kp τ F2 H1 fp2 e2 σ ∧ Go F H (U fp) F2 H1 (fun p => U fp2 p ∨ S2 p) ∧ FlR cl F2 H1 S2 f y ∧ ∀ p, S2 p → F2 p = none ∧ Nt H1 p ∧ ¬ U fp2 p := by
    have go1' := go1.mono (V' := U fp1) fun p z => .inl z
    cases r with
    | ow o =>
      cases o with
      | fl f0 => cases h2; exact ⟨F1, fp1, S, I1, go1, rr.1, rr.2⟩
      | un => cases h2
      | ins c' ns fs =>
        cases h2
        have n0 := fun p z => (rr.2 p z).1
        exact ⟨plus F1 H1 S, fp1, fun _ => False, I1.plus rr.2, (go1.plus n0).mono fun p z => z.elim id False.elim, OR.plus n0 rr.1 rfl, fun p z => z.elim⟩
    | fz a => cases h2; exact ⟨F1, fp1, fun _ => False, I1, go1'.mono fun p z => z.elim id False.elim, rr, fun p z => z.elim⟩
    | pf _ _ => cases h2
    | pl j =>
      obtain ⟨⟨a, e3⟩, h3, z⟩ := Option.map_eq_some_iff.mp h2
      cases z
      obtain ⟨o, ho, h3⟩ := Option.bind_eq_some_iff.mp (show (e1[j]?.bind fun o => o.vw.map fun a => (a, e1.set j (.fl (.fz a)))) = some (a, e3) from h3)
      obtain ⟨b, w, z⟩ := Option.map_eq_some_iff.mp h3
      cases z
      obtain ⟨I3, go3, rp⟩ := I1.freeze ho w rr
      exact ⟨_, _, fun _ => False, I3, (go1'.trans go3).mono fun p z => z.elim id False.elim, rp, fun p z => z.elim⟩
  split at e
  case h_2 => cases e
  rename_i c' ns fs he
  split at e
  case isFalse => cases e
  rename_i cc
  obtain ⟨ec, el, e1000⟩ := cc
  subst ec
  cases e
  obtain ⟨w, hw, q⟩ := I2.at he rfl
  obtain ⟨p, dx, vs, T, rfl, sp, sd, hp, hd, z, z', rl, t1, t2⟩ := q
  have lv : ns.length = vs.length := by rw [el, z']
  refine ⟨.ref p, hw, p, cl c', dx, _, rfl, hp, hc, hn, by rw [List.length_zip, lv, Nat.min_self, z']; exact e1000, ?_⟩
  rw [putF_zip lv]
  have up : U fp2 p := ⟨i, sp⟩
  have nS' : ∀ q, S2 q → q ≠ p ∧ q ≠ dx := fun q s => ⟨fun e => (nS q s).2.2 (by rw [e]; exact up), fun e => (nS q s).2.2 (by rw [e]; exact ⟨i, sd⟩)⟩
  let H2 := upd H1 p (.ins (cl c') dx ((putZ ns vs n y).1.zip (putZ ns vs n y).2))
  let fp3 : Nat → Addr → Prop := fun j q => if j = i then fp2 i q ∨ S2 q else fp2 j q
  have I3 : Rs cl kp τ F2 H2 fp3 (e2.set i (.ins c' (putZ ns fs n f).1 (putZ ns fs n f).2)) σ := by
    refine ⟨by rw [List.length_set]; exact I2.len, fun j x hx => ?_, fun j l q a b => ?_, fun j q a => ?_, fun j q a => ?_, fun q u e => ?_, I2.pro, I2.tl⟩
    · rcases set_at hx with ⟨rfl, rfl, _⟩ | ⟨ne, hx⟩
      · refine .inr ⟨.ref p, hw, p, dx, (putZ ns vs n y).2, fun l q => if l = posZ ns n then S2 q else T l q, rfl, ?_, ?_, ?_, ?_, putZ_len el, ?_, fun l g u hg hu => ?_, fun l q hq => ?_, fun l m q a b => ?_⟩
        · show (if j = j then fp2 j p ∨ S2 p else fp2 j p); rw [if_pos rfl]; exact .inl sp
        · show (if j = j then fp2 j dx ∨ S2 dx else fp2 j dx); rw [if_pos rfl]; exact .inl sd
        · show L2.upd H1 p _ p = _; rw [upd_same, putZ_fst (y := f) (z := y) el lv]
        · show L2.upd H1 p _ dx = _; rw [upd_ne (fun z => by rw [z] at hd; rw [hp] at hd; cases hd)]; exact hd
        · rw [← putZ_len lv, putZ_fst (y := y) (z := f) lv el, putZ_len el]
        · rcases putZ_at el hg with ⟨a1, a2⟩ | ⟨a1, a2⟩
          · subst a2
            rcases putZ_at lv hu with ⟨b1, b2⟩ | ⟨b1, b2⟩
            · subst b2
              exact FlR.sub (fun q s => by simp only [if_pos a1]; exact s) (FlR.go (Same.refl _) (fun q u s e => by show L2.upd H1 p _ q = _; rw [upd_ne (nS' q s).1]; exact e) fr)
            · exact (b1 a1).elim
          · rcases putZ_at lv hu with ⟨b1, b2⟩ | ⟨b1, b2⟩
            · exact (a1 b1).elim
            · exact FlR.sub (fun q s => by simp only [if_neg a1]; exact s) (FlR.go (Same.refl _) (fun q u s e => by show L2.upd H1 p _ q = _; rw [upd_ne (t1 l q s).2.1]; exact e) (rl l g u a2 b2))
        · have hq : if l = posZ ns n then S2 q else T l q := hq
          by_cases c : l = posZ ns n
          · rw [if_pos c] at hq
            exact ⟨by show (if j = j then fp2 j q ∨ S2 q else fp2 j q); rw [if_pos rfl]; exact .inr hq, nS' q hq⟩
          · rw [if_neg c] at hq
            exact ⟨by show (if j = j then fp2 j q ∨ S2 q else fp2 j q); rw [if_pos rfl]; exact .inl (t1 l q hq).1, (t1 l q hq).2⟩
        · have a : if l = posZ ns n then S2 q else T l q := a
          have b : if m = posZ ns n then S2 q else T m q := b
          by_cases c1 : l = posZ ns n <;> by_cases c2 : m = posZ ns n
          · exact c1.trans c2.symm
          · rw [if_pos c1] at a; rw [if_neg c2] at b; exact ((nS q a).2.2 ⟨j, (t1 m q b).1⟩).elim
          · rw [if_neg c1] at a; rw [if_pos c2] at b; exact ((nS q b).2.2 ⟨j, (t1 l q a).1⟩).elim
          · rw [if_neg c1] at a; rw [if_neg c2] at b; exact t2 l m q a b
      · refine (I2.slot j x hx).imp id fun ⟨v, a, b⟩ => ⟨v, a, OR.sub (fun q h => by show (if j = i then fp2 i q ∨ S2 q else fp2 j q); rw [if_neg ne]; exact h) (OR.go (Same.refl _) (fun q u h e => ?_) b)⟩
        show L2.upd H1 p _ q = _
        rw [upd_ne (fun z => ne (I2.dis j i p (by rw [← z]; exact h) sp))]
        exact e
    · have a : if j = i then fp2 i q ∨ S2 q else fp2 j q := a
      have b : if l = i then fp2 i q ∨ S2 q else fp2 l q := b
      by_cases c1 : j = i <;> by_cases c2 : l = i
      · exact c1.trans c2.symm
      · rw [if_pos c1] at a; rw [if_neg c2] at b
        exact a.elim (fun a => c1.trans (I2.dis i l q a b)) fun a => ((nS q a).2.2 ⟨l, b⟩).elim
      · rw [if_neg c1] at a; rw [if_pos c2] at b
        exact b.elim (fun b => (I2.dis j i q a b).trans c2.symm) fun b => ((nS q b).2.2 ⟨j, a⟩).elim
      · rw [if_neg c1] at a; rw [if_neg c2] at b; exact I2.dis j l q a b
    · have a : if j = i then fp2 i q ∨ S2 q else fp2 j q := a
      by_cases c : j = i
      · rw [if_pos c] at a; exact a.elim (I2.sep i q) fun s => (nS q s).1
      · rw [if_neg c] at a; exact I2.sep j q a
    · have a : if j = i then fp2 i q ∨ S2 q else fp2 j q := a
      refine nt_upd rfl ?_
      by_cases c : j = i
      · rw [if_pos c] at a; exact a.elim (I2.dom i q) fun s => (nS q s).2.1
      · rw [if_neg c] at a; exact I2.dom j q a
    · show L2.upd H1 p _ q = _
      rw [upd_ne (fun z => by rw [z, I2.sep i p sp] at e; cases e)]
      exact I2.le _ _ e
  refine k F2 H2 fp3 σ I3 ⟨go2.sF, fun q u nu e => ?_, go2.new, fun q h => ?_, fun q h => dom_upd (go2.dom q h), fun q h => nt_upd rfl (go2.ntd q h)⟩
  · have e1 := go2.keep q u nu e
    show L2.upd H1 p _ q = _
    rw [upd_ne (fun z => ?_)]
    · exact e1
    · rcases go2.fpn p (.inl up) with a | a
      · exact nu (by rw [z]; exact a)
      · rw [z, a] at e; cases e
  · obtain ⟨j, h⟩ := h
    have h : if j = i then fp2 i q ∨ S2 q else fp2 j q := h
    by_cases c : j = i
    · rw [if_pos c] at h
      exact h.elim (fun h => go2.fpn q (.inl ⟨i, h⟩)) fun h => go2.fpn q (.inr h)
    · rw [if_neg c] at h
      exact go2.fpn q (.inl ⟨j, h⟩)
end
end Dl
namespace Dl
open PySem PySem.Spec L2
/-! ## slices -/
def SP (cl : Nat → Addr) (kp : List Nat) (t : TO) (g : Env → Option (Option Int)) : Prop :=
  ∀ ⦃τ : L2.St⦄ ⦃F H : Hp⦄ ⦃fp : Nat → Addr → Prop⦄ ⦃env : Env⦄ ⦃σ : L2.St⦄ ⦃Q : Option Int → Hp → Prop⦄ ⦃o : Option Int⦄, Rs cl kp τ F H fp env σ → g env = some o →
    (∀ F' H', Rs cl kp τ F' H' fp env σ → Go F H (U fp) F' H' (U fp) → Same H H' → Q o H') → t σ H Q
def cutA (xs : List A) (lo hi : Option Int) : List A := (xs.drop (HT.sIx xs.length 0 lo)).take (HT.sIx xs.length xs.length hi - HT.sIx xs.length 0 lo)
section
variable {cl : Nat → Addr} {kp : List Nat} {τ σ : L2.St} {F F' H H' : Hp} {fp : Nat → Addr → Prop} {env : Env} {S : Addr → Prop} {K : PySem.W.Frag}
def gP0 : Env → Option (Option Int) := fun _ => some none
def gP1 (g : G) : Env → Option (Option Int) := fun env => (gOne g env).bind fun p => p.1.int?.map some
/-- the parts of a slice -/
def gSl3 (g : G) (gl gh : Env → Option (Option Int)) : Env → Option (A × Option Int × Option Int × Env) := fun env => (g env).bind fun p => if p.1.tmp.isOw then none else (gl p.2).bind fun l => (gh p.2).bind fun u => (p.1.tmp.vw p.2).map fun a => (a, l, u, p.2)
def gSlL (g : G) (gl gh : Env → Option (Option Int)) : G := fun env => (gSl3 g gl gh env).bind fun p => p.1.lsts.map fun xs => (.ow (.fl (.lst (cutA xs p.2.1 p.2.2.1))), p.2.2.2)
def gOpU (pb : Bool) (f : A → A → Option (List A)) (ga gb : G) : G := fun env => (gTwo pb ga gb env).bind fun p => (f p.1 p.2.1).map fun c => (.fz (.tup c), p.2.2)
def fSlS (a : A) (l u : Option Int) : Option A := match a with
  | .str z => if z.length ≤ sizeLine then some (.str (cutS z l u)) else none
  | _ => none
def gSlS (g : G) (gl gh : Env → Option (Option Int)) : G := fun env => (gSl3 g gl gh env).bind fun p => (fSlS p.1 p.2.1 p.2.2.1).map fun a => (.fz a, p.2.2.2)
/-! ## texts by their methods -/
def gMs (f : Str → List A → Option A) (g : G) (ga : Env → Option (List A × Env)) : G := fun env => (gOne g env).bind fun p => p.1.str?.bind fun z => (ga p.2).bind fun q => (f z q.1).map fun c => (.fz c, q.2)
def mJoin (z : Str) : List A → Option A
  | [a] => a.items.bind fun xs => (strs? xs).bind fun ss => if (ss.map (·.length)).sum + ss.length * z.length ≤ 16777216 then some (.str (Txt.join z ss)) else none
  | _ => none
/-! ## truth -/
def A.tru : A → Option Bool
  | .non => some false | .bl b => some b | .int i => some (i != 0)
  | .str y => if y.length ≤ sizeLine then some ((y.length : Int) != 0) else none
  | .lst xs => some (!xs.isEmpty) | .tup xs => some (!xs.isEmpty)
  | _ => none
theorem tru_ok {a : A} {x : V} {b : Bool} (s : Same F H) (h : Rv cl F H a x) (e : a.tru = some b) : TruV K x H b := by
  cases a with
  | non => cases h; cases e; rfl
  | bl y => cases h; cases e; rfl
  | int i => cases h; cases e; rfl
  | str y =>
    cases h
    have e : (if y.length ≤ sizeLine then some ((y.length : Int) != 0) else none) = some b := e
    split at e
    · rename_i z; cases e; exact ⟨z, rfl⟩
    · cases e
  | lst xs =>
    cases e
    obtain ⟨p, vs, rfl, q, r⟩ := h
    refine .inl ⟨vs, SqL.of q, ?_⟩
    cases xs with
    | nil => cases r; rfl
    | cons a xs => obtain ⟨v, r, rfl, _⟩ := r; rfl
  | tup xs =>
    cases e
    obtain ⟨p, vs, rfl, q, r⟩ := h
    refine .inr (.inl ⟨vs, SqT.of (s _ _ q), ?_⟩)
    cases xs with
    | nil => cases r; rfl
    | cons a xs => obtain ⟨v, r, rfl, _⟩ := r; rfl
  | _ => cases e
def gTru (g : G) : Env → Option (Bool × Env) := fun env => (gOne g env).bind fun p => p.1.tru.map fun b => (b, p.2)
theorem st_tru {pu : Bool} {t : TE} {g : G} (h : SE cl kp pu t g) : ST cl kp pu (fun σ H Q => t σ H fun x H' => ∃ k, TruV K x H' k ∧ Q k H') (gTru g) := by
  intro τ F H fp env σ Q b env' I e k
  obtain ⟨⟨a, e1⟩, h1, e⟩ := Option.bind_eq_some_iff.mp e
  obtain ⟨c, hc, z⟩ := Option.map_eq_some_iff.mp e
  cases z
  exact se_one (W := fun x H' => ∃ k, TruV K x H' k ∧ Q k H') h I h1 fun F1 H1 fp1 x I1 go rx pu1 => ⟨_, tru_ok I1.le rx hc, k F1 H1 fp1 I1 go pu1⟩
/-- x or y, by truth -/
def gOrT2 (g h : G) : G := fun env => (gT g env).bind fun p => (p.1.vw p.2).bind fun a => a.tru.bind fun b => if b then some p else h p.2
end
end Dl
namespace Dl
open PySem PySem.Spec L2

/-! ## settled values, alternatives, comprehensions of two clauses -/
section
variable {cl : Nat → Addr} {kp : List Nat} {τ σ : L2.St} {F F' H H' : Hp} {fp : Nat → Addr → Prop} {env : Env} {S : Addr → Prop} {K : PySem.W.Frag}
def gFr (pu : Bool) (g : G) : G := fun env => (gS pu g env).map fun p => (.fz p.1, p.2)
theorem SE.fr {pu : Bool} {t : TE} {g : G} (h : SE cl kp pu t g) : SE cl kp false t (gFr false g) := by
  intro τ F H fp env σ Q r env' I e k
  obtain ⟨⟨a, e1⟩, h1, z⟩ := Option.map_eq_some_iff.mp e
  cases z
  have h' : SE cl kp false t g := fun τ F H fp env σ Q r env' I e k => h I e fun F' H' fp' S v a b c _ => k F' H' fp' S v a b c fun z => nomatch z
  exact h'.sf I h1 fun F' H' fp' v I' go r pu => k F' H' fp' (fun _ => False) v I' (go.mono fun p z => z.elim id False.elim) r fun z => nomatch z
theorem SE.imp {pu : Bool} {t : TE} {g : G} (h : SE cl kp pu t g) : SE cl kp false t g := fun τ F H fp env σ Q r env' I e k => h I e fun F' H' fp' S v a b c _ => k F' H' fp' S v a b c fun z => nomatch z
def tAlt (t u : TE) : TE := fun σ H Q => t σ H Q ∨ u σ H Q
def gAlt (g h : G) : G := fun env => match g env with
  | some r => some r
  | none => h env
theorem se_alt {pa pb : Bool} {t u : TE} {g h : G} (a : SE cl kp pa t g) (b : SE cl kp pb u h) : SE cl kp (pa && pb) (tAlt t u) (gAlt g h) := by
  intro τ F H fp env σ Q r env' I e k
  unfold gAlt at e
  split at e
  · rename_i r0 h0
    cases e
    exact .inl (a I h0 fun F' H' fp' S v x y z pu => k F' H' fp' S v x y z (pu_left pu))
  · refine .inr (b I e fun F' H' fp' S v x y z pu => k F' H' fp' S v x y z fun w => pu (Bool.and_eq_true_iff.mp w).2)
def tAltT (t u : TT) : TT := fun σ H Q => t σ H Q ∨ u σ H Q
def gAltT (g h : Env → Option (Bool × Env)) : Env → Option (Bool × Env) := fun env => match g env with
  | some r => some r
  | none => h env
def tAltI (t u : TI) : TI := fun σ H Q => t σ H Q ∨ u σ H Q
def gItAlt (g h : Env → Option (List A × Env)) : Env → Option (List A × Env) := fun env => match g env with
  | some r => some r
  | none => h env
theorem si_alt {t u : TI} {g h : Env → Option (List A × Env)} (a : SI cl kp t g) (b : SI cl kp u h) : SI cl kp (tAltI t u) (gItAlt g h) := by
  intro τ F H fp env σ Q r env' I e k
  unfold gItAlt at e
  split at e
  · rename_i r0 h0
    cases e
    exact .inl (a I h0 k)
  · exact .inr (b I e k)
theorem _root_.L2.PE.alt {X : Cx} {e : Expr} {t u : TE} (a : PE X e t) (b : PE X e u) : PE X e (tAlt t u) := ⟨fun pins s σ H Q I h => h.elim (a.run pins s σ H Q I) (b.run pins s σ H Q I)⟩
theorem _root_.L2.PT.alt {X : Cx} {e : Expr} {t u : TT} (a : PT X e t) (b : PT X e u) : PT X e (tAltT t u) := ⟨fun pins s σ H Q I h => h.elim (a.run pins s σ H Q I) (b.run pins s σ H Q I)⟩
/-! ### two clauses -/
theorem in_it {J : It} {n : Nat} {G : Hp → Prop} {Y : Nat → Hp → V → Hp → Prop} (w : Walk J n G Y) {W : Nat → V → Hp → Prop → Prop} {H1 : Hp} {Qd : Hp → Prop} {B : (Hp → Prop) → V → Hp → Prop} (Pv : Nat → Hp → Prop) (h0 : Pv 0 H1) (hG : ∀ i H, i ≤ n → Pv i H → G H)
    (hs : ∀ i x H H', i < n → Pv i H → Y i H x H' → B (Pv (i + 1)) x H') (hd : ∀ H, Pv n H → Qd H) :
    ∃ W : Nat → Nat → Hp → Prop, (∃ m, W 0 m H1) ∧ ∀ i m H, W i m H →
      (J.stop i H ∧ Qd H) ∨ (J.go i H ∧ ∃ Nx : Hp → Prop, (∀ H', Nx H' → ∃ m', m' < m ∧ W (i + 1) m' H') ∧ ∀ x H', J.yld i H x H' → B Nx x H') := by
  refine ⟨fun i m H => m = n - i ∧ i ≤ n ∧ Pv i H, ⟨n, by simp, Nat.zero_le _, h0⟩, ?_⟩
  rintro i m H ⟨rfl, hi, p⟩
  have q := hG i H hi p
  by_cases hlt : i < n
  · exact .inr ⟨w.goes i H hlt q, Pv (i + 1), fun H' p' => ⟨n - (i + 1), by omega, rfl, hlt, p'⟩, fun x H' y => hs i x H H' hlt p (w.yields i H x H' hlt q y)⟩
  · have e : i = n := by omega
    subst e
    exact .inl ⟨w.stops H q, hd H p⟩
/-- where a comprehension's block stands: its list at D, apart from all that is known -/
structure Blk (cl : Nat → Addr) (kp : List Nat) (τ : L2.St) (F0 H0 : Hp) (fp0 : Nat → Addr → Prop) (D : Addr) (F H : Hp) (fp : Nat → Addr → Prop) (env : Env) (σ : L2.St) (acc : List A) (ws : List V) : Prop where
  I : Rs cl kp τ F H fp env σ
  go : Go F0 H0 (fun p => U fp0 p ∨ p = D) F H (fun p => U fp p ∨ p = D)
  ap : Apart D F H fp
  hd : H D = some (.lst ws)
  rp : RpL cl F acc ws
section
variable {F0 H0 : Hp} {fp0 : Nat → Addr → Prop} {D : Addr} {acc : List A} {ws : List V}
theorem Blk.step (b : Blk cl kp τ F0 H0 fp0 D F H fp env σ acc ws) {F' H' : Hp} {fp' : Nat → Addr → Prop} {env' : Env} {σ' : L2.St} (I' : Rs cl kp τ F' H' fp' env' σ') (g : Go F H (U fp) F' H' (U fp')) : Blk cl kp τ F0 H0 fp0 D F' H' fp' env' σ' acc ws := by
  obtain ⟨ap, hd⟩ := b.ap.go b.hd rfl g
  exact ⟨I', b.go.trans (g.join (by rw [b.hd]; exact fun z => nomatch z)), ap, hd, RpL.same g.sF b.rp⟩
theorem Blk.tgt (b : Blk cl kp τ F0 H0 fp0 D F H fp env σ acc ws) {fp' : Nat → Addr → Prop} {env' : Env} {σ' : L2.St} (I' : Rs cl kp τ F H fp' env' σ') (s : ∀ p, U fp' p → U fp p) : Blk cl kp τ F0 H0 fp0 D F H fp' env' σ' acc ws :=
  ⟨I', b.go.mono fun p z => z.imp (s p) id, ⟨fun z => b.ap.nU (s D z), b.ap.nF⟩, b.hd, b.rp⟩
theorem Blk.wipe (b : Blk cl kp τ F0 H0 fp0 D F H fp env σ acc ws) {vs : List Nat} (hk : ∀ i ∈ kp, i ∉ vs) : Blk cl kp τ F0 H0 fp0 D F H fp (wipeE env vs) (L2.wipe σ vs) acc ws := ⟨b.I.wipe hk, b.go, b.ap, b.hd, b.rp⟩
theorem Blk.push (b : Blk cl kp τ F0 H0 fp0 D F H fp env σ acc ws) {c : A} {u : V} (r : Rp cl F c u) : Blk cl kp τ F0 H0 fp0 D F (upd H D (.lst (ws ++ [u]))) fp env σ (acc ++ [c]) (ws ++ [u]) :=
  ⟨b.I.apart rfl b.ap.nU b.ap.nF, b.go.apart rfl, ⟨b.ap.nU, b.ap.nF⟩, upd_same, b.rp.app (RpL.one r)⟩
end
def comp2G (vs vs1 : List Nat) (h : A → Env → Option Env) (tt : Env → Option (Bool × Env)) (it1 : Env → Option (List A × Env)) (h1 : A → Env → Option Env) (tt1 : Env → Option (Bool × Env)) (te : Env → Option (A × Env)) : List A → List A → Env → Option (List A × Env)
  | [], acc, env => some (acc, env)
  | x :: xs, acc, env => (h x env).bind fun e1 => (tt e1).bind fun p => if p.1 then (it1 p.2).bind fun q => (compG vs1 h1 tt1 te q.1 acc (wipeE q.2 vs1)).bind fun r => comp2G vs vs1 h tt it1 h1 tt1 te xs r.1 (wipeE r.2 vs)
    else comp2G vs vs1 h tt it1 h1 tt1 te xs acc (wipeE p.2 vs)
def gComp2 (it : Env → Option (List A × Env)) (vs vs1 : List Nat) (h : A → Env → Option Env) (tt : Env → Option (Bool × Env)) (it1 : Env → Option (List A × Env)) (h1 : A → Env → Option Env) (tt1 : Env → Option (Bool × Env)) (te : Env → Option (A × Env)) : G := fun env => (it env).bind fun p =>
  if offE p.2 vs then (comp2G vs vs1 h tt it1 h1 tt1 te p.1 [] (wipeE p.2 vs)).map fun q => (.ow (.fl (.lst q.1)), backE p.2 q.2 vs) else none
theorem compG_cons {vs : List Nat} {h : A → Env → Option Env} {tt : Env → Option (Bool × Env)} {te : Env → Option (A × Env)} {x : A} {xs acc : List A} {env : Env} :
    compG vs h tt te (x :: xs) acc env = (h x env).bind fun e1 => (tt e1).bind fun p => if p.1 then (te p.2).bind fun q => if acc.length < sizeLine then compG vs h tt te xs (acc ++ [q.1]) (wipeE q.2 vs) else none
    else compG vs h tt te xs acc (wipeE p.2 vs) := rfl
theorem wipe_sub {σ : L2.St} {vs vs1 : List Nat} (h : ∀ i ∈ vs1, i ∈ vs) : L2.wipe (L2.wipe σ vs1) vs = L2.wipe σ vs := by
  refine List.ext_getElem? fun j => ?_
  rw [wipe_idx, wipe_idx, wipe_idx]
  by_cases m : j ∈ vs
  · rw [if_pos m, if_pos m]
    by_cases m1 : j ∈ vs1
    · rw [if_pos m1, Option.map_map]; rfl
    · rw [if_neg m1]
  · rw [if_neg m, if_neg m, if_neg fun z => m (h j z)]
theorem lc2_core' {ts ts1 : List Nat} {pt pt1 pe : Bool} {wi1 : TI} {tg tg1 : TG} {tt tt1 : TT} {te : TE} {vs vs1 : List Nat} {it1 : Env → Option (List A × Env)} {h h1 : A → Env → Option Env} {gt gt1 : Env → Option (Bool × Env)} {ge : Env → Option (A × Env)} (hk : ∀ i ∈ kp, i ∉ vs) (h11 : ∀ i ∈ vs1, i ∈ vs)
    (hg : SG cl kp ts tg h) (tin : ∀ i ∈ ts, i ∈ vs) (ht : ST cl kp pt tt gt) (hi1 : SI cl kp wi1 it1) (hg1 : SG cl kp ts1 tg1 h1) (tin1 : ∀ i ∈ ts1, i ∈ vs1) (ht1 : ST cl kp pt1 tt1 gt1) (he : SF cl kp pe te ge)
    {F0 H0 : Hp} {fp0 : Nat → Addr → Prop} {e0 e9 : Env} {J : It} {xs ys : List A} {Q : VK} (I0 : Rs cl kp τ F0 H0 fp0 e0 σ) (off : offE e0 vs = true) (wk : WalkD cl F0 J xs)
    (h9 : comp2G vs vs1 h gt it1 h1 gt1 ge xs [] (wipeE e0 vs) = some (ys, e9))
    (k : ∀ F' H' fp' S v, Rs cl kp τ F' H' fp' (backE e0 e9 vs) σ → Go F0 H0 (U fp0) F' H' (fun p => U fp' p ∨ S p) → RR cl F' H' fp' σ (.ow (.fl (.lst ys))) v S → Q v H') : tLc2 (iK J) tg tt wi1 tg1 tt1 te vs vs1 σ H0 Q := by
  have hk1 : ∀ i ∈ kp, i ∉ vs1 := fun i a b => hk i a (h11 i b)
  obtain ⟨G, Y, w, wG, wY⟩ := wk
  intro D hD
  have fD := fnone I0.le hD
  have uD : ¬ U fp0 D := fun ⟨i, z⟩ => (I0.dom i D z).ne hD
  have W0 := (I0.wipe hk (vs := vs)).laid (o := .lst []) hD
  let Pv : Nat → Hp → Prop := fun i H' => ∃ F' fp' ei acc ws, Blk cl kp τ F0 H0 fp0 D F' H' fp' ei (L2.wipe σ vs) acc ws ∧ comp2G vs vs1 h gt it1 h1 gt1 ge (xs.drop i) acc ei = some (ys, e9)
  refine in_it w (W := fun _ _ _ p => p) (B := fun Nx x H' => tg x (L2.wipe σ vs) H' fun σ2 H2 => L2.wipe σ2 vs = L2.wipe σ vs ∧ tt σ2 H2 fun b H3 => if b = true then wi1 σ2 H3 fun J1 H4 => ∃ W1 : Nat → Nat → Hp → Prop, (∃ m, W1 0 m H4) ∧ ∀ j k H, W1 j k H →
      (J1.stop j H ∧ Nx H) ∨ (J1.go j H ∧ ∃ Nx1 : Hp → Prop, (∀ H', Nx1 H' → ∃ k', k' < k ∧ W1 (j + 1) k' H') ∧ ∀ x H', J1.yld j H x H' → tg1 x (L2.wipe σ2 vs1) H' fun σ3 H5 => L2.wipe σ3 vs1 = L2.wipe σ2 vs1 ∧ tt1 σ3 H5 fun b H6 =>
        if b = true then te σ3 H6 fun y H7 => ∃ acc, H7 D = some (.lst acc) ∧ acc.length < sizeLine ∧ Nx1 (upd H7 D (.lst (acc ++ [y]))) else Nx1 H6)
    else Nx H3) Pv ⟨F0, fp0, _, [], [], ⟨W0, ?_, ⟨uD, fD⟩, upd_same, rfl⟩, h9⟩ ?_ ?_ ?_
  · exact ⟨Same.refl _, fun p u n e => by rw [upd_ne (fun z => n (.inr z))]; exact e, fun p a e => (a e).elim, fun p h => .inl h, fun p h => dom_upd h, fun p h => nt_upd rfl h⟩
  · rintro i H' _ ⟨F', fp', ei, acc, ws, b, _⟩
    exact wG H' (b.go.sF.trans b.I.le)
  · rintro i x H' H2 hi' ⟨F', fp', ei, acc, ws, b, le⟩ y
    obtain ⟨a, ha, hx⟩ := wY i H' x H2 hi' (b.go.sF.trans b.I.le) y
    obtain ⟨F2, I2, go2, r2, s2⟩ := turn_ok (J := J) b.I b.go.sF ha hx
    have hd' : xs.drop i = a :: xs.drop (i + 1) := by
      rw [List.drop_eq_getElem_cons hi']
      congr 1
      exact Option.some.inj ((List.getElem?_eq_getElem hi').symm.trans ha)
    rw [hd'] at le
    obtain ⟨e2, he2, le⟩ := Option.bind_eq_some_iff.mp (show ((h a ei).bind fun e1 => (gt e1).bind fun p => if p.1 then (it1 p.2).bind fun q => (compG vs1 h1 gt1 ge q.1 acc (wipeE q.2 vs1)).bind fun r => comp2G vs vs1 h gt it1 h1 gt1 ge (xs.drop (i + 1)) r.1 (wipeE r.2 vs)
      else comp2G vs vs1 h gt it1 h1 gt1 ge (xs.drop (i + 1)) acc (wipeE p.2 vs)) = some (ys, e9) from le)
    obtain ⟨⟨bt, e3⟩, he3, le⟩ := Option.bind_eq_some_iff.mp le
    have b2 := b.step I2 go2
    refine hg I2 r2 he2 fun σ3 fp3 I3 s3 w3 => ⟨(w3 vs tin).trans wipe_wipe, ?_⟩
    have b3 := b2.tgt I3 s3
    have ws3 : L2.wipe σ3 vs = L2.wipe σ vs := (w3 vs tin).trans wipe_wipe
    refine ht I3 he3 fun F4 H4 fp4 I4 go4 _ => ?_
    have b4 := b3.step I4 go4
    cases bt with
    | false =>
      have b5 := b4.wipe hk
      rw [ws3] at b5
      exact ⟨F4, fp4, _, acc, ws, b5, le⟩
    | true =>
      obtain ⟨⟨xs1, e5⟩, he5, le⟩ := Option.bind_eq_some_iff.mp (show ((it1 e3).bind fun q => (compG vs1 h1 gt1 ge q.1 acc (wipeE q.2 vs1)).bind fun r => comp2G vs vs1 h gt it1 h1 gt1 ge (xs.drop (i + 1)) r.1 (wipeE r.2 vs)) = some (ys, e9) from le)
      obtain ⟨⟨acc6, e6⟩, he6, le⟩ := Option.bind_eq_some_iff.mp le
      refine hi1 I4 he5 fun F5 H5 fp5 J1 I5 go5 ⟨G1, Y1, w1, wG1, wY1⟩ => ?_
      have b5 := b4.step I5 go5
      let Pv1 : Nat → Hp → Prop := fun j H' => ∃ F' fp' ej acc' ws', Blk cl kp τ F0 H0 fp0 D F' H' fp' ej (L2.wipe σ3 vs1) acc' ws' ∧ Same F5 F' ∧ compG vs1 h1 gt1 ge (xs1.drop j) acc' ej = some (acc6, e6)
      refine in_it w1 (W := fun _ _ _ p => p) (B := fun Nx1 x H' => tg1 x (L2.wipe σ3 vs1) H' fun σ3' H5 => L2.wipe σ3' vs1 = L2.wipe σ3 vs1 ∧ tt1 σ3' H5 fun b H6 =>
        if b = true then te σ3' H6 fun y H7 => ∃ acc, H7 D = some (.lst acc) ∧ acc.length < sizeLine ∧ Nx1 (upd H7 D (.lst (acc ++ [y]))) else Nx1 H6) Pv1 ⟨F5, fp5, _, acc, ws, b5.wipe hk1, Same.refl _, he6⟩ ?_ ?_ ?_
      · rintro j H' _ ⟨F', fp', ej, acc', ws', b, s, _⟩
        exact wG1 H' (s.trans b.I.le)
      · rintro j x H' H2 hj ⟨F', fp', ej, acc', ws', b, s, le1⟩ y
        obtain ⟨a1, ha1, hx1⟩ := wY1 j H' x H2 hj (s.trans b.I.le) y
        obtain ⟨F6, I6, go6, r6, s6⟩ := turn_ok (J := J1) b.I s ha1 hx1
        have hd1 : xs1.drop j = a1 :: xs1.drop (j + 1) := by
          rw [List.drop_eq_getElem_cons hj]
          congr 1
          exact Option.some.inj ((List.getElem?_eq_getElem hj).symm.trans ha1)
        rw [hd1, compG_cons] at le1
        obtain ⟨e7, he7, le1⟩ := Option.bind_eq_some_iff.mp le1
        obtain ⟨⟨bt1, e8⟩, he8, le1⟩ := Option.bind_eq_some_iff.mp le1
        have b6 := b.step I6 go6
        refine hg1 I6 r6 he7 fun σ7 fp7 I7 s7 w7 => ⟨(w7 vs1 tin1).trans wipe_wipe, ?_⟩
        have b7 := b6.tgt I7 s7
        have ws7 : L2.wipe σ7 vs1 = L2.wipe σ3 vs1 := (w7 vs1 tin1).trans wipe_wipe
        refine ht1 I7 he8 fun F8 H8 fp8 I8 go8 _ => ?_
        have b8 := b7.step I8 go8
        cases bt1 with
        | false =>
          have b9 := b8.wipe hk1
          rw [ws7] at b9
          exact ⟨F8, fp8, _, acc', ws', b9, (s.trans go6.sF).trans go8.sF, le1⟩
        | true =>
          obtain ⟨⟨c, e10⟩, he10, le1⟩ := Option.bind_eq_some_iff.mp (show ((ge e8).bind fun q => if acc'.length < sizeLine then compG vs1 h1 gt1 ge (xs1.drop (j + 1)) (acc' ++ [q.1]) (wipeE q.2 vs1) else none) = some (acc6, e6) from le1)
          split at le1
          case isFalse => cases le1
          rename_i hz
          refine he I8 he10 fun F9 H9 fp9 u I9 go9 r9 _ => ?_
          have b9 := b8.step I9 go9
          have b10 := (b9.wipe hk1).push r9
          rw [ws7] at b10
          exact ⟨ws', b9.hd, by rw [b9.rp.length]; exact hz, F9, fp9, _, acc' ++ [c], ws' ++ [u], b10, ((s.trans go6.sF).trans go8.sF).trans go9.sF, le1⟩
      · rintro H' ⟨F', fp', ej, acc', ws', b, s, le1⟩
        rw [List.drop_length] at le1
        cases le1
        have b9 := b.wipe hk
        rw [wipe_sub h11, ws3] at b9
        exact ⟨F', fp', _, acc6, ws', b9, le⟩
  · rintro H' ⟨F', fp', ei, acc, ws, b, le⟩
    rw [List.drop_length] at le
    cases le
    refine k F' H' fp' (fun q => q = D) _ (I0.back off b.I b.go.sF) ?_ ⟨⟨D, ws, rfl, rfl, b.hd, b.rp⟩, fun p e => by rw [e]; exact ⟨b.ap.nF, ⟨_, b.hd, rfl⟩, b.ap.nU⟩⟩
    refine ⟨b.go.sF, fun p u n e => ?_, fun p a e => ?_, fun p h => ?_, b.go.dom, b.go.ntd⟩
    · exact b.go.keep p u (fun z => z.elim n fun z => by rw [z, hD] at e; cases e) e
    · rcases b.go.new p a e with z | (z | z) | z
      · exact .inl z
      · exact .inr (.inl z)
      · exact .inl (by rw [z]; exact hD)
      · exact .inr (.inr z)
    · rcases b.go.fpn p h with z | z
      · exact z.elim .inl fun z => .inr (by rw [z]; exact hD)
      · exact .inr z
theorem se_lc2 {ts ts1 : List Nat} {pt pt1 pe : Bool} {wi wi1 : TI} {tg tg1 : TG} {tt tt1 : TT} {te : TE} {vs vs1 : List Nat} {it it1 : Env → Option (List A × Env)} {h h1 : A → Env → Option Env} {gt gt1 : Env → Option (Bool × Env)} {ge : Env → Option (A × Env)} (hk : ∀ i ∈ kp, i ∉ vs) (h11 : ∀ i ∈ vs1, i ∈ vs) (hi : SI cl kp wi it)
    (hg : SG cl kp ts tg h) (tin : ∀ i ∈ ts, i ∈ vs) (ht : ST cl kp pt tt gt) (hi1 : SI cl kp wi1 it1) (hg1 : SG cl kp ts1 tg1 h1) (tin1 : ∀ i ∈ ts1, i ∈ vs1) (ht1 : ST cl kp pt1 tt1 gt1) (he : SF cl kp pe te ge) : SE cl kp false (tLc2 wi tg tt wi1 tg1 tt1 te vs vs1) (gComp2 it vs vs1 h gt it1 h1 gt1 ge) := by
  intro τ F H fp env σ Q r env' I e k
  obtain ⟨⟨xs, e0⟩, hx, e⟩ := Option.bind_eq_some_iff.mp e
  split at e
  case isFalse => cases e
  rename_i off
  obtain ⟨⟨ys, e9⟩, h9, z⟩ := Option.map_eq_some_iff.mp e
  cases z
  exact hi I hx fun F0 H0 fp0 J I0 go0 wk => lc2_core' hk h11 hg tin ht hi1 hg1 tin1 ht1 he I0 off wk h9 fun F' H' fp' S v I' go' r => k F' H' fp' S v I' (go0.trans go') r fun z => nomatch z
end
end Dl
namespace L2
open PySem PySem.Spec PyProof.Rows
end L2
namespace Dl
open PySem PySem.Spec L2
section
variable {cl : Nat → Addr} {kp : List Nat} {τ σ : L2.St} {F F' H H' : Hp} {fp : Nat → Addr → Prop} {env : Env} {S : Addr → Prop} {K : PySem.W.Frag}
def fLenK : A → Option A
  | .dK ks _ => some (.int ks.length) | .dT ks _ => some (.int ks.length) | _ => none
/-- a class's constant -/
theorem se_cval {c : Nat} {f : Str} {mc u : Value} {v : V} {a : A} (r : ClX.CRead K (cl c) mc) (hk : PySem.W.findCls K (.ref (cl c)) mc f = some (.val u)) (hv : RelV v u) (ha : a.sc = some v) : SE cl kp true (ClX.tCVal K (tC (.ref (cl c))) f) (gK a) := by
  intro τ F H fp env σ Q z env' I e k
  cases e
  exact ⟨cl c, mc, v, u, rfl, r, ⟨hk, hv⟩, k F H fp (fun _ => False) v I (Go.refl.mono fun p z => z.elim id False.elim) (Rp.of_sc ha) fun _ => ⟨rfl, rfl, Same.refl _⟩⟩
end
end Dl
namespace Dl
open PySem PySem.Spec L2

/-! ## walking a dict that stays: it is locked meanwhile -/
def DictHO : HO → Prop
  | .dK _ => True
  | .dT _ => True
  | _ => False
theorem DictHO.nt {u : HO} (h : DictHO u) : HOtup u = false := by cases u <;> first | exact h.elim | rfl
/-- two heaps that differ at a dict's lock only -/
structure Swap (d : Addr) (u : HO) (F F2 : Hp) : Prop where
  dk : DictHO u
  at1 : F d = some u ∨ ∃ o, F d = some (.frz o u)
  at2 : F2 d = some u ∨ ∃ o, F2 d = some (.frz o u)
  off : ∀ p, p ≠ d → F2 p = F p
section
variable {cl : Nat → Addr} {kp : List Nat} {τ σ : L2.St} {F F' H H' : Hp} {fp : Nat → Addr → Prop} {env : Env} {S : Addr → Prop} {K : PySem.W.Frag}
theorem Swap.keep {d : Addr} {u : HO} {F2 : Hp} (s : Swap d u F F2) {p : Addr} {o : HO} (h : F p = some o) (n1 : ¬ DictHO o) (n2 : ∀ x y, o ≠ .frz x y) : F2 p = some o := by
  by_cases c : p = d
  · subst c
    rcases s.at1 with a | ⟨x, a⟩
    · rw [h] at a; cases a; exact (n1 s.dk).elim
    · rw [h] at a; cases a; exact (n2 _ _ rfl).elim
  · rw [s.off p c]; exact h
theorem Swap.rd {d : Addr} {u w : HO} {F2 : Hp} (s : Swap d u F F2) {p : Addr} (h : Rd F p w) (dw : DictHO w) : Rd F2 p w := by
  by_cases c : p = d
  · subst c
    have : w = u := by
      rcases h with h | ⟨x, h⟩
      · rcases s.at1 with a | ⟨y, a⟩
        · rw [h] at a; cases a; rfl
        · rw [h] at a; cases a; exact dw.elim
      · rcases s.at1 with a | ⟨y, a⟩
        · rw [h] at a; cases a; exact s.dk.elim
        · rw [h] at a; cases a; rfl
    subst this
    exact s.at2
  · exact h.imp (fun e => by rw [s.off p c]; exact e) fun ⟨o, e⟩ => ⟨o, by rw [s.off p c]; exact e⟩
/-! ### where the dict is -/
def lcV (i : Nat) : Env → Option A := fun env => match env[i]? with
  | some (.fl (.fz a)) => some a
  | _ => none
end
end Dl
/-! dict comprehensions whose keys may be tuples of ints and texts: the pair is put as d[k] = v puts it -/
namespace L2
open PySem PySem.Spec PyProof.Rows
section
variable {X : Cx}
/-- what a new empty dict may be taken for -/
def Empty0 (o : HO) : Prop := o = .dK [] ∨ o = .dT []
theorem Empty0.ok {P : Program} {w : World} {H : Hp} {o : HO} (e : Empty0 o) (h : Heap) (hb : sysModules < h.objs.size) : ObjOk P w H (h.push { cls := .type "dict", data := .dict #[] }) h.objs.size o := by
  rcases e with rfl | rfl
  · exact dk_empty h hb
  · exact dt_empty h hb
end
end L2
namespace Dl
open PySem PySem.Spec L2

def keyT : Key → A
  | .inl i => .int i
  | .inr s => .str s
def A.keysD : A → Option (List A)
  | .dK ks _ => some (ks.map keyT)
  | .dT ks _ => some (ks.map fun l => .tup (l.map keyT))
  | _ => none
section
variable {cl : Nat → Addr} {kp : List Nat} {τ σ : L2.St} {F F' H H' : Hp} {fp : Nat → Addr → Prop} {env : Env} {S : Addr → Prop} {K : PySem.W.Frag} {Eh : XK}
/-! ### for over a dict -/
def tAltS (t u : TS) : TS := fun D σ H => t D σ H ∨ u D σ H
theorem _root_.L2.PS.alt {X : Cx} {st : Stmt} {t u : TS} (a : PS X st t) (b : PS X st u) : PS X st (tAltS t u) := ⟨fun pins s σ H D I h => h.elim (a.run pins s σ H D I) (b.run pins s σ H D I)⟩
/-- no error leaves the loop -/
def noEr : Fo × Env → Option (Fo × Env)
  | (.er _, _) => none
  | p => some p
def gForD (sel : A → Option (List A)) (loc : Env → Option A) (h : A → Env → Option Env) (b : GS) : GS := fun env => (loc env).bind fun a => (sel a).bind fun xs => (loopG h b xs env).bind noEr
/-! ### a list comprehension over a dict -/
/-! ### dict comprehensions -/
structure BlkD (cl : Nat → Addr) (kp : List Nat) (τ : L2.St) (F0 H0 : Hp) (fp0 : Nat → Addr → Prop) (D : Addr) (F H : Hp) (fp : Nat → Addr → Prop) (env : Env) (σ : L2.St) (acc : Fl) (o : HO) : Prop where
  I : Rs cl kp τ F H fp env σ
  go : Go F0 H0 (fun p => U fp0 p ∨ p = D) F H (fun p => U fp p ∨ p = D)
  ap : Apart D F H fp
  hd : H D = some o
  rp : FlO cl F acc o
section
variable {F0 H0 : Hp} {fp0 : Nat → Addr → Prop} {D : Addr} {acc : Fl} {ob : HO}
theorem BlkD.step (b : BlkD cl kp τ F0 H0 fp0 D F H fp env σ acc ob) {F' H' : Hp} {fp' : Nat → Addr → Prop} {env' : Env} {σ' : L2.St} (I' : Rs cl kp τ F' H' fp' env' σ') (g : Go F H (U fp) F' H' (U fp')) : BlkD cl kp τ F0 H0 fp0 D F' H' fp' env' σ' acc ob := by
  obtain ⟨ap, hd⟩ := b.ap.go b.hd b.rp.nt g
  exact ⟨I', b.go.trans (g.join (by rw [b.hd]; exact fun z => nomatch z)), ap, hd, FlO.same g.sF b.rp⟩
theorem BlkD.tgt (b : BlkD cl kp τ F0 H0 fp0 D F H fp env σ acc ob) {fp' : Nat → Addr → Prop} {env' : Env} {σ' : L2.St} (I' : Rs cl kp τ F H fp' env' σ') (s : ∀ p, U fp' p → U fp p) : BlkD cl kp τ F0 H0 fp0 D F H fp' env' σ' acc ob :=
  ⟨I', b.go.mono fun p z => z.imp (s p) id, ⟨fun z => b.ap.nU (s D z), b.ap.nF⟩, b.hd, b.rp⟩
theorem BlkD.wipe (b : BlkD cl kp τ F0 H0 fp0 D F H fp env σ acc ob) {vs : List Nat} (hk : ∀ i ∈ kp, i ∉ vs) : BlkD cl kp τ F0 H0 fp0 D F H fp (wipeE env vs) (L2.wipe σ vs) acc ob := ⟨b.I.wipe hk, b.go, b.ap, b.hd, b.rp⟩
theorem BlkD.put (b : BlkD cl kp τ F0 H0 fp0 D F H fp env σ acc ob) {acc' : Fl} {ob' : HO} (r : FlO cl F acc' ob') : BlkD cl kp τ F0 H0 fp0 D F (upd H D ob') fp env σ acc' ob' :=
  ⟨b.I.apart r.nt b.ap.nU b.ap.nF, b.go.apart r.nt, ⟨b.ap.nU, b.ap.nF⟩, upd_same, r⟩
end
theorem FlO.fl {p : Addr} {f : Fl} {o : HO} (h : FlO cl F f o) (hp : H p = some o) : OR cl F H (fun q => q = p) (.fl f) (.ref p) := FlR.of_root rfl hp h
end
end Dl
namespace L2
open PySem PySem.Spec PyProof.Rows
/-! ## own specials of an instance: len, str, a field of an f-string -/
section
variable {X : Cx} {CX : CXT} {k : Nat} {C f : Addr} {fd : FuncData} {ps : List Str} {sp : Sp} {E : XK}
end
end L2
namespace Dl
open PySem PySem.Spec L2
/-! ## instances are made, their arguments by reference -/
section
variable {cl : Nat → Addr} {kp : List Nat} {τ σ : L2.St} {F F' H H' : Hp} {fp : Nat → Addr → Prop} {env : Env} {S : Addr → Prop} {K : PySem.W.Frag}
def makeG (c : Nat) (f : GF) (rs : List R) (env : Env) : Option (R × Env) := (callG f (.pl env.length :: rs) (env ++ [.ins c [] []])).bind fun p => match p.1 with
  | .fz .non => (p.2[env.length]?).map fun o => (.ow o, p.2.take env.length)
  | _ => none
theorem app_lt {α : Type} {l : List α} {x : α} {i : Nat} {y : α} (h : l[i]? = some y) : (l ++ [x])[i]? = some y := by
  rw [List.getElem?_append_left (List.getElem?_eq_some_iff.mp h).1]; exact h
theorem app_at {α : Type} {l : List α} {x y : α} {i : Nat} (h : (l ++ [x])[i]? = some y) : l[i]? = some y ∨ (i = l.length ∧ y = x) := by
  by_cases c : i < l.length
  · rw [List.getElem?_append_left c] at h; exact .inl h
  · rw [List.getElem?_append_right (by omega)] at h
    have : i - l.length = 0 := by
      cases e : i - l.length with
      | zero => rfl
      | succ n => rw [e] at h; simp at h
    rw [this] at h
    simp at h
    exact .inr ⟨by omega, h.symm⟩
/-- one more slot -/
theorem Rs.more (I : Rs cl kp τ F H fp env σ) {o : O} {v : V} {S : Addr → Prop} (h : OR cl F H S o v) (n : ∀ p, S p → F p = none ∧ Nt H p ∧ ¬ U fp p) :
    Rs cl kp (τ ++ [some v]) F H (fun i p => (i < env.length ∧ fp i p) ∨ (i = env.length ∧ S p)) (env ++ [o]) (σ ++ [some v]) := by
  have ls := I.len
  have lt := I.tl
  refine ⟨by simp [ls], fun i x hx => ?_, fun i j p a b => ?_, fun i p a => a.elim (fun z => I.sep i p z.2) fun z => (n p z.2).1, fun i p a => a.elim (fun z => I.dom i p z.2) fun z => (n p z.2).2.1, I.le, fun i hi => ?_, by simp [lt]⟩
  · rcases app_at hx with hx | ⟨rfl, rfl⟩
    · have hl := (List.getElem?_eq_some_iff.mp hx).1
      exact (I.slot i x hx).imp id fun ⟨v, a, b⟩ => ⟨v, app_lt a, OR.sub (fun p z => .inl ⟨hl, z⟩) b⟩
    · refine .inr ⟨v, ?_, OR.sub (fun p z => .inr ⟨rfl, z⟩) h⟩
      rw [List.getElem?_append_right (by omega), ls]; simp
  · rcases a with ⟨a1, a2⟩ | ⟨a1, a2⟩ <;> rcases b with ⟨b1, b2⟩ | ⟨b1, b2⟩
    · exact I.dis i j p a2 b2
    · exact ((n p b2).2.2 ⟨i, a2⟩).elim
    · exact ((n p a2).2.2 ⟨j, b2⟩).elim
    · omega
  · have := I.pro i hi
    by_cases c : i < σ.length
    · rw [List.getElem?_append_left c, List.getElem?_append_left (by omega)]; exact this
    · rw [List.getElem?_append_right (by omega), List.getElem?_append_right (by omega), lt]
/-- the last slot is taken away -/
theorem Rs.less {v : V} {n : Nat} {o : O} (hn : n = σ.length) (ht : τ.length = n) (I : Rs cl kp (τ ++ [some v]) F H fp env (σ ++ [some v])) (pro : ∀ i ∈ kp, σ[i]? = τ[i]?) (ho : env[n]? = some o) :
    Rs cl kp τ F H (fun i p => i < n ∧ fp i p) (env.take n) σ ∧ OR cl F H (fp n) o v := by
  have le := I.len
  rw [List.length_append] at le
  have hne : n < env.length := (List.getElem?_eq_some_iff.mp ho).1
  refine ⟨⟨by rw [List.length_take]; omega, fun i x hx => ?_, fun i j p a b => I.dis i j p a.2 b.2, fun i p a => I.sep i p a.2, fun i p a => I.dom i p a.2, I.le, pro, by omega⟩, ?_⟩
  · have hi : i < n := by
      have := (List.getElem?_eq_some_iff.mp hx).1
      rw [List.length_take] at this
      omega
    rw [List.getElem?_take_of_lt hi] at hx
    refine (I.slot i x hx).imp id fun ⟨v', a, b⟩ => ⟨v', ?_, OR.sub (fun p z => ⟨hi, z⟩) b⟩
    rw [List.getElem?_append_left (by omega)] at a
    exact a
  · rcases I.slot n o ho with rfl | ⟨u, hu, q⟩
    · trivial
    · rw [List.getElem?_append_right (by omega), hn] at hu
      simp at hu
      subst hu
      exact q
theorem RRs.more {x : Option V} : ∀ {rs : List R} {vs : List V}, RRs cl F σ rs vs → RRs cl F (σ ++ [x]) rs vs
  | [], _, h => h
  | .fz a :: rs, _, h => let ⟨v, r, e, q, z⟩ := h; ⟨v, r, e, q, RRs.more z⟩
  | .pl i :: rs, _, h => let ⟨v, r, e, q, z⟩ := h; ⟨v, r, e, app_lt q, RRs.more z⟩
  | .pf _ _ :: _, _, h => h.elim
  | .ow _ :: _, _, h => h.elim
theorem make_ok {c : Nat} {f : GF} {rs : List R} {vs : List V} {r : R} {env' : Env} {Q : VK} {E : XK} (I1 : Rs cl kp τ F H fp env σ) (rr : RRs cl F σ rs vs) (e : makeG c f rs env = some (r, env'))
    (k : ∀ F' H' fp' S v, Rs cl kp τ F' H' fp' env' σ → Go F H (U fp) F' H' (fun p => U fp' p ∨ S p) → RR cl F' H' fp' σ r v S → Q v H') {x dx : Addr} (nx : H x = none) (nd : H dx = none) (ne : dx ≠ x) :
    spD cl f (.ref x :: vs) (upd (upd H dx (.own x)) x (.ins (cl c) dx [])) (fun v H2 => v = .non ∧ Q (.ref x) H2) E := by
  obtain ⟨⟨r0, e1⟩, h1, e⟩ := Option.bind_eq_some_iff.mp e
  have hx : upd (upd H dx (.own x)) x (.ins (cl c) dx []) x = some (.ins (cl c) dx []) := upd_same
  have hdx : upd (upd H dx (.own x)) x (.ins (cl c) dx []) dx = some (.own x) := by rw [upd_ne ne, upd_same]
  have nd' : upd H dx (.own x) x = none := by rw [upd_ne ne.symm]; exact nx
  have J1 := (I1.laid (o := .own x) nd).laid (o := .ins (cl c) dx []) nd'
  have s1 : Same H (upd (upd H dx (.own x)) x (.ins (cl c) dx [])) := (same_new nd).trans (same_new nd')
  have fx := fnone I1.le nx
  have fd := fnone I1.le nd
  have ux : ¬ U fp x := fun ⟨i, z⟩ => (I1.dom i x z).ne nx
  have ud : ¬ U fp dx := fun ⟨i, z⟩ => (I1.dom i dx z).ne nd
  have J2 := J1.more (o := .ins c [] []) (v := .ref x) (S := fun p => p = x ∨ p = dx) ⟨x, dx, [], fun _ _ => False, rfl, .inl rfl, .inr rfl, hx, hdx, rfl, rfl, fun j f u hf => by simp at hf, fun _ _ z => z.elim, fun _ _ _ z => z.elim⟩ fun p hp => by
    rcases hp with rfl | rfl
    · exact ⟨fx, ⟨_, hx, rfl⟩, ux⟩
    · exact ⟨fd, ⟨_, hdx, rfl⟩, ud⟩
  have ls := I1.len
  have lt := I1.tl
  have rr2 : RRs cl F (σ ++ [some (V.ref x)]) (.pl env.length :: rs) (.ref x :: vs) := ⟨_, _, rfl, by rw [List.getElem?_append_right (by omega), ls]; simp, rr.more⟩
  refine call_ok (env' := e1) (r := r0) J2 rr2 h1 fun F' H' fp' S v I' go ro => ?_
  split at e
  case h_2 => cases e
  rename_i r1 hr1
  obtain ⟨o, ho, e⟩ := Option.map_eq_some_iff.mp e
  cases e
  have hr1 : r0 = .fz .non := hr1
  subst hr1
  refine ⟨ro, ?_⟩
  have ho : e1[env.length]? = some o := ho
  obtain ⟨I2, or⟩ := Rs.less (n := env.length) ls (by omega) I' I1.pro ho
  have hg : ∀ p, fp' env.length p → ¬ U (fun i p => i < env.length ∧ fp' i p) p := fun p a ⟨i, hi, b⟩ => by
    have := I'.dis i env.length p b a
    omega
  have inU : ∀ p, U (fun i p => (i < env.length ∧ fp i p) ∨ (i = env.length ∧ (p = x ∨ p = dx))) p → U fp p ∨ H p = none := fun p ⟨i, z⟩ => z.elim (fun z => .inl ⟨i, z.2⟩) fun z => .inr (by rcases z.2 with rfl | rfl <;> assumption)
  have back : ∀ p, upd (upd H dx (.own x)) x (.ins (cl c) dx []) p = none → H p = none := fun p z => by
    cases q : H p with
    | none => rfl
    | some u => rw [s1 _ _ q] at z; cases z
  refine k F' H' _ (fp' env.length) _ I2 ⟨go.sF, fun p u n q => ?_, fun p a b => ?_, fun p h => ?_, fun p h => ?_, fun p ⟨u, a, b⟩ => go.ntd p ⟨u, s1 _ _ a, b⟩⟩ ⟨or, fun p h => ⟨I'.sep _ p h, I'.dom _ p h, hg p h⟩⟩
  · refine go.keep p u (fun z => ?_) (s1 _ _ q)
    rcases inU p z with z | z
    · exact n z
    · rw [z] at q; cases q
  · rcases go.new p a b with z | z | ⟨vs', z⟩
    · exact .inl (back p z)
    · exact (inU p z).elim (fun z => .inr (.inl z)) .inl
    · refine .inr (.inr ⟨vs', ?_⟩)
      by_cases e1 : p = x
      · rw [e1, hx] at z; cases z
      · rw [upd_ne e1] at z
        by_cases e2 : p = dx
        · rw [e2, upd_same] at z; cases z
        · rw [upd_ne e2] at z; exact z
  · have : U fp' p := h.elim (fun ⟨i, z⟩ => ⟨i, z.2⟩) fun z => ⟨_, z⟩
    rcases go.fpn p (.inl this) with z | z
    · exact inU p z
    · exact .inr (back p z)
  · refine go.dom p ?_
    cases q : H p with
    | none => exact (h q).elim
    | some u => rw [s1 _ _ q]; exact fun z => nomatch z
def gMakeR (c : Nat) (f : GF) (ds : List A) (g : Env → Option (List R × Env)) : G := fun env => (g env).bind fun p => makeG c f (p.1 ++ ds.map .fz) p.2
theorem se_makeR {c : Nat} {f : GF} {ds : List A} {dvs : List V} {E : XK} {t : TA} {g : Env → Option (List R × Env)} (hd : scV ds = some dvs) (h : SR cl kp t g) : SE cl kp false (tMake (cl c) (spD cl f) dvs E t) (gMakeR c f ds g) := by
  intro τ F H fp env σ Q r env' I e k
  obtain ⟨⟨rs, e1⟩, h1, e⟩ := Option.bind_eq_some_iff.mp e
  exact h I h1 fun F1 H1 fp1 vs I1 go1 rr x dx nx nd ne => make_ok I1 (rr.app hd) e (fun F' H' fp' S v I' go' r' => k F' H' fp' S v I' (go1.trans go') r' fun z => nomatch z) nx nd ne
/-! ### with an empty dict behind the arguments: a ** parameter -/
/-! ### own specials -/
def okText : R → Bool
  | .fz (.str _) => true
  | _ => false
def gOwn (ok : R → Bool) (c : Nat) (f : GF) (ga : G) : G := fun env => (gOp1 (A.isIns c) f ga env).bind fun p => if ok p.1 then some p else none
/-! ### f-strings -/
def fFmt : A → Option A
  | .str y => if y.length ≤ sizeLine then some (.str y) else none
  | .int i => if i.natAbs.log2 < 1920 then some (.str (toString i)) else none
  | _ => none
def joinG : List G → Str → Env → Option (Str × Env)
  | [], acc, env => some (acc, env)
  | g :: gs, acc, env => (g env).bind fun p => match p.1 with
    | .fz (.str y) => if (acc ++ y).length ≤ sizeLine then joinG gs (acc ++ y) p.2 else none
    | _ => none
def gJoined (gs : List G) : G := fun env => (joinG gs Str.empty env).map fun p => (.fz (.str p.1), p.2)
end
end Dl
namespace PySem
open AutoSeq1 (wpAny_loadPart')
theorem meets_enumerate_new1 {v : Value} {o : Obj} {H : Heap → Prop} (B : Begins v o H) :
    Meets (Builtin.«enumerate.__new__» ⟨[.type "enumerate", v], []⟩) (fun _ R s => H s.heap ∧
      R (.ok (.ret (.ref (s.heap.push o).objs.size))) { s with heap := (s.heap.push o).push { cls := .type "enumerate", data := .fields #[.none, .bool false, .ref s.heap.objs.size, rawInt 0, .none, .none] } }) :=
  .of_wp fun prog w A R s h => by
    obtain ⟨hp, g, d, tk, os⟩ := s; obtain ⟨h1, h⟩ := h
    have hsub := sub_enumerate
    have q1 : ∀ {A' : Around} {E : Value → Shared → Prop} {Q : Value → Shared → Prop}, Q (.ref hp.objs.size) ⟨hp.push o, g, d, tk, os⟩ → wpAny (model prog w) A' (pyIter v) Q E ⟨hp, g, d, tk, os⟩ :=
      fun q => B.iter prog w _ _ ⟨hp, g, d, tk, os⟩ _ h1 q
    wp_walk using q1
    refine wpAny_stack_any fun st => wpAny_pure ?_
    split
    · rename_i c _ _ _ _ _
      cases (c == Value.type "enumerate")
      · wp_walk using q1
        exact ⟨_, rfl, h⟩
      · wp_walk using q1
        exact ⟨_, rfl, h⟩
    · wp_walk using q1
      exact ⟨_, rfl, h⟩
section
variable {prog : Program} {w : World} {A : Around} {E : Value → Shared → Prop} {s : Shared}
theorem enum_begins1 {v : Value} {o : Obj} {H : Heap → Prop} {Q : Value → Shared → Prop} (B : Begins v o H) (h1 : H s.heap)
    (h : ∀ h', IsEnum h' (s.heap.objs.size + 1) s.heap.objs.size 0 .none → h'.get? s.heap.objs.size = some o → h'.objs.size = s.heap.objs.size + 2 →
      (∀ b o, s.heap.get? b = some o → h'.get? b = some o) → Q (.ref (s.heap.objs.size + 1)) { s with heap := h' }) :
    wpAny (model prog w) A (call (.type "enumerate") [v]) Q E s := by
  refine callType_new F.called_enumerate (by decide) (F.typeCall_enumerate_1 _) (F.newCall_enumerate_1 _) (fun obj => F.args_object_init_2 obj _) F.entry_enumerate_new
    (meets_enumerate_new1 B) ⟨h1, ?_⟩
  have hz : (s.heap.push o).objs.size = s.heap.objs.size + 1 := Heap.size_push ..
  show _ ∧ _
  rw [hz]
  have he : IsEnum ((s.heap.push o).push { cls := .type "enumerate", data := .fields #[.none, .bool false, .ref s.heap.objs.size, rawInt 0, .none, .none] }) (s.heap.objs.size + 1) s.heap.objs.size 0 .none := by
    have := Heap.get?_push_size (s.heap.push o) (o := { cls := .type "enumerate", data := .fields #[.none, .bool false, .ref s.heap.objs.size, rawInt 0, .none, .none] }) rfl
    rw [hz] at this; exact this
  refine ⟨⟨_, he, rfl⟩, h _ he (Heap.get?_push_of_some _ (Heap.get?_push_size _ B.free)) (by rw [Heap.size_push, hz]) fun b o x => Heap.get?_push_of_some _ (Heap.get?_push_of_some _ x)⟩
end
end PySem
namespace L2
open PySem PySem.Spec PyProof.Rows
/-- the tuple at a, each item in a new pair -/
def Itet (K : PySem.W.Frag) (a : Addr) : It :=
  ⟨fun i H => ∃ (xs : List V) (x : V), SqT K H a xs ∧ xs[i]? = some x, fun i H v H' => ∃ T x, v = .ref T ∧ H T = none ∧ H' = upd H T (.tup [.int (i : Nat), x]) ∧ ∀ xs, SqT K H a xs → xs[i]? = some x, fun i H => ∃ xs : List V, SqT K H a xs ∧ xs.length = i⟩
theorem tup_ne_iter {h : Heap} {a it : Addr} {items : Array Value} {i : Nat} (p : h.IsTuple a items) (q : h.IsTupleIter it a i) : a ≠ it := fun z => by
  obtain ⟨o, h1, h2, _⟩ := p
  obtain ⟨o', h3, h4, _⟩ := q
  rw [z, h3] at h1
  cases h1
  rw [h4] at h2
  injection h2 with h2
  exact absurd h2 (by decide)
theorem turn_enumT {P : Program} {w : World} {K : PySem.W.Frag} {elts : List Expr} {kk : Nat} {tpos : Pos} (a e it : Addr) :
    Turn P w K (.Tuple elts kk tpos) (Itet K a) [e, it] e (fun i h => (∃ old, IsEnum h e it ((i : Nat) : Int) old) ∧ h.IsTupleIter it a i ∧ e ≠ it) where
  mem := by simp
  obj := fun i h st b hb => by
    obtain ⟨⟨old, he⟩, ⟨o, ho, hc, hd⟩, _⟩ := st
    have e' : b = e ∨ b = it := by simpa using hb
    rcases e' with z | z
    · rw [z]; exact ⟨_, he, fun v q => nomatch q⟩
    · rw [z]; exact ⟨o, ho, fun v q => by rw [hd] at q; cases q⟩
  keep := fun i h h' st k => let ⟨⟨old, he⟩, hi, hne⟩ := st; ⟨⟨old, k e (by simp) _ he⟩, hi.at fun o q => k it (by simp) o q, hne⟩
  item := by
    intro X hP hw hK hc i pins s σ H E I hf st hg
    subst hP hw hK
    obtain ⟨⟨old, he⟩, hit, hne⟩ := st
    obtain ⟨xs, x, hq, hx⟩ := hg
    obtain ⟨its, rv, p, hz⟩ := I.tuple hq
    obtain ⟨u, hu, ru⟩ := rv.get hx
    have p' : s.heap.IsTuple a its.toArray := p
    have hai := tup_ne_iter p' hit
    have hea : e ≠ a := fun z => by
      obtain ⟨o, h1, h2, _⟩ := p'
      rw [← z, he] at h1
      cases h1
      replace h2 : Value.type "enumerate" = Value.type "tuple" := h2
      injection h2 with h2
      exact absurd h2 (by decide)
    have hel : e < s.heap.objs.size := Heap.lt_size he
    have hil : it < s.heap.objs.size := by obtain ⟨_, q, _⟩ := id hit; exact Heap.lt_size q
    have hi : i < its.toArray.size := by
      have := (List.getElem?_eq_some_iff.mp hu).1
      simpa using this
    have D := Draws.tuple (prog := X.prog) (w := X.w) (A := X.A.in1) (show X.A.in1.handled = none from I.ok.hd hc) it a hai its.toArray
    refine wpAny_pyNext_enum_itemD D he ⟨hit, p'⟩ hi hne (by simp [hne, hea]) fun x' h' tk hP ho st' hT hsz hk => ?_
    have ex : x' = u := by
      have : its[i]? = some x' := by simpa using hP
      rw [hu] at this
      exact (Option.some.inj this).symm
    subst ex
    refine ⟨_, rfl, wpAny_letOwnedTupleGo_enum (s := { s with heap := h', toks := tk + 1 }) ho fun h'' he' sb => ?_⟩
    have hT2 : h''.get? s.heap.objs.size = some { cls := .type "tuple", data := .seq #[.int i tk, x'] } := (sb.2 _ (Nat.ne_of_gt hel)).trans hT
    have new : ObjOk X.prog X.w (upd H s.heap.objs.size (.tup [.int (i : Nat), x])) h'' s.heap.objs.size (.tup [.int (i : Nat), x]) :=
      ⟨by show 2 ≤ sizeLine; decide, [.int i tk, x'], .cons ⟨_, rfl⟩ (.cons ru .nil), ⟨_, hT2, rfl, _, rfl⟩⟩
    have I1 : Inv X pins σ (upd H s.heap.objs.size (.tup [.int (i : Nat), x])) { s with heap := h'', toks := tk + 1 } :=
      I.turnedNew (ch := [e, it]) (fun b ob hb q => (sb.2 b (fun z => hb (by simp [z]))).trans (hk b ob (fun z => hb (by simp [z])) (fun z => hb (by simp [z])) q)) hf (Nat.le_refl _) new
    refine ⟨.ref s.heap.objs.size, _, I1, rfl, ⟨_, x, rfl, I.hok.fresh (Nat.le_refl _), rfl, fun ys hy => by rw [I.tuple_inj hy hq]; exact hx⟩, ⟨⟨x', ?_⟩, st'.1.at fun o q => (sb.2 it (Ne.symm hne)).trans q, hne⟩, fun b hb => ?_⟩
    · have e1 : ((i + 1 : Nat) : Int) = (i : Int) + 1 := by omega
      rw [e1]; exact he'
    · have hb' : b < s.heap.objs.size := by
        have e' : b = e ∨ b = it := by simpa using hb
        rcases e' with z | z
        · rw [z]; exact hel
        · rw [z]; exact hil
      rw [upd_ne (Nat.ne_of_lt hb')]
      exact (hf b hb).1
  done := by
    intro X hP hw hK hc i pins s σ H E I hf st hg
    subst hP hw hK
    obtain ⟨⟨old, he⟩, hit, hne⟩ := st
    obtain ⟨xs, hq, hx⟩ := hg
    obtain ⟨its, rv, p, hz⟩ := I.tuple hq
    have p' : s.heap.IsTuple a its.toArray := p
    have hai := tup_ne_iter p' hit
    obtain ⟨f0, f1, f2, f3, f4, f5⟩ := hf it (by simp)
    have hl := rv.length
    have en : i = its.toArray.size := by simp; omega
    subst en
    have D := Draws.tuple (prog := X.prog) (w := X.w) (A := X.A.in1) (show X.A.in1.handled = none from I.ok.hd hc) it a hai its.toArray
    exact wpAny_pyNext_enum_endD D he ⟨hit, p'⟩ fun h' eb => ⟨rfl, I.turned (t' := s.toks) (fun b o hb q => eb b o hb q) f0 f1 f3 f4 f5⟩
  self := fun A i s Q E st h => let ⟨⟨_, he⟩, _⟩ := st; wpAny_pyIter_enum he h
def iEnumT (K : PySem.W.Frag) (ta : TA) : TI := fun σ H R => ta σ H fun vs H1 => ∃ a xs, vs = [.ref a] ∧ SqT K H1 a xs ∧ R (Itet K a) H1
theorem pi_enumT {X : Cx} {e : Expr} {ta : TA} {p pos tpos : Pos} {elts : List Expr} {kk : Nat} (hg : Gl X "enumerate") (hm : X.mg "enumerate" = none) (ha : PA X [e] ta) (hs : starEach [e] X.env = [(false, eval e X.env)] := by rfl) :
    PI X (.Tuple elts kk tpos) (.Call (.Name "enumerate" p) [e] [] pos) (iEnumT X.K ta) := by
  refine ⟨fun pins s σ H R I h => ?_⟩
  refine Call_ (ld_blt I hg hm boot_enumerate (PyProof.Rows.callWith_type1 (thn (ha.run pos pins s σ H _ I h) fun us s1 ⟨vs, H1, I1, r1, q1⟩ => ?_) hs rfl))
  obtain ⟨a, xs, ex, hq, q⟩ := q1
  subst ex
  cases r1 with
  | cons r rr =>
    cases rr
    cases r
    obtain ⟨its, rv, p', hz⟩ := I1.tuple hq
    refine enum_begins1 (begins_tuple a its.toArray) (show s1.heap.IsTuple a its.toArray from p') fun h' he hit hsz hk => wpAny_pyIter_enum he ?_
    have I2 : Inv X pins σ H1 { s1 with heap := h' } := I1.kept (t' := s1.toks) hk
    refine ⟨s1.heap.objs.size + 1, [s1.heap.objs.size + 1, s1.heap.objs.size], _, _, H1, rfl, I2, turn_enumT a (s1.heap.objs.size + 1) s1.heap.objs.size, ⟨⟨.none, he⟩, ⟨_, hit, rfl, rfl⟩, Nat.succ_ne_self _⟩, fun b hb => ?_, q⟩
    have e' : b = s1.heap.objs.size + 1 ∨ b = s1.heap.objs.size := by simpa using hb
    have hle : s1.heap.objs.size ≤ b := by
      rcases e' with z | z
      · rw [z]; exact Nat.le_add_right _ _
      · rw [z]; exact Nat.le_refl _
    exact I1.fpOk hle (I1.hok.fresh hle)
end L2
namespace L2
open PySem PySem.Spec PyProof.Rows
/-! ## enumerate(a text) -/
theorem walk_enumT {K : PySem.W.Frag} {a : Addr} {xs : List V} : Walk (Itet K a) xs.length (fun H => SqT K H a xs) (YPair (fun i => some (.int (i : Nat))) (fun i => xs[i]?)) :=
  ⟨fun i _ hi q => ⟨xs, xs[i], q, List.getElem?_eq_getElem hi⟩, fun _ q => ⟨xs, q, rfl⟩, fun _ _ _ _ _ q ⟨T, x, e, n, h, hx⟩ => ⟨T, _, _, e, n, h, rfl, hx xs q⟩⟩
end L2
/-! ## super().__init__(e) ahead of an own exception's stores -/
namespace SupX
open PySem PySem.Spec PyProof.Rows PySem.W L2
section
variable {prog : Program} {w : World} {A : Around} {E : Value → Shared → Prop} {h : Heap} {g : Array GenState} {d : Drawn} {t : Nat} {os : OsState}
variable {nm q : Str} {C N : Addr} {bs bm : List Value} {hdct : Bool} {sn : List Str} {sub : List Value} {ab : Bool} {col : Option Bool} {dd : Option Addr} {k0 k1 k2 k3 k5 : Option Value}
/-- the bound wrapper of ValueError.__init__ is called: the error's args are laid anew -/
theorem call_kw {u e t0 : Addr} {ws : List Value} {Q : Value → Shared → Prop} (oC : h.get? C = some (excClassObj nm q C N bs bm hdct sn sub ab col dd k0 k1 k2 k3 k5 "ValueError.__new__")) (oe : h.get? e = some (HandSPX.excO C t0))
    (ou : h.get? u = some (kxs_mw "ValueError.__init__" e)) (small : ws.length ≤ sizeLine) (k : ∀ h1 t1, (∀ b o, b ≠ e → h.get? b = some o → h1.get? b = some o) → h1.get? e = some (HandSPX.excO C t1) → Q .none ⟨h1, g, d, t, os⟩) :
    wpAny (model prog w) A (call (.ref u) ws) Q E ⟨h, g, d, t, os⟩ := by
  have FB := F.excBase_ValueError
  apply wpAny_call
  apply codeAny_of_tree
  change wpAny _ A.in1 (callAny (.ref u) ⟨ws, []⟩) _ _ _
  unfold callAny
  apply wpAny_bind
  apply wpAny_load ou
  have kind : (((kxs_mw "ValueError.__init__" e).cls == .type "method" || (kxs_mw "ValueError.__init__" e).cls == .type "builtin_function_or_method") || (kxs_mw "ValueError.__init__" e).cls == .type "method-wrapper") = true := by
    have z : (kxs_mw "ValueError.__init__" e).cls = .type "method-wrapper" := rfl
    rw [z]
    decide
  refine W.KFB.if_so kind (wpAny_bind (check_bound_init FB.toExcCallFacts oC oe rfl (wpAny_bind (wpAny_pure (wpAny_pure ?_)))))
  refine ⟨plainId_quiet FB.init.plain _, codeAny_builtin FB.initEntry ?_⟩
  exact exc_init_tree (cls := .ref C) (t0 := t0) (dv := none) (c2 := .none) (c3 := .none) (b4 := .bool false) oe small fun h1 k1 e1 _ => k h1 _ k1 e1
end
/-- a body's end, told as a call's end -/
theorem ce_of {X : Cx} (ex : X.ex = []) {Q : VK} : ∀ {fl : Flow} {s' : Shared}, SP X [] { nx := fun _ H' => Q .non H', rt := Q } fl s' → CR CX0 X.outer X.prog X.w X.H_0 X.s_0 Q E0 (.ok (.ret (match fl with | .ret v => v | _ => .none))) s'
  | .ret _, _, ⟨v, _, H1, J, r, k⟩ => ⟨v, H1, J.os, J.bare, ex ▸ J.base, J.hok, r, k⟩
  | .next, _, ⟨_, H1, J, k⟩ => ⟨.non, H1, J.os, J.bare, ex ▸ J.base, J.hok, rfl, k⟩
  | .brk, _, ⟨_, _, _, k⟩ => k.elim
  | .cont, _, ⟨_, _, _, k⟩ => k.elim
/-- what the written part says of an own exception's __init__ that begins with super().__init__ -/
structure SupC (P : Program) (K : PySem.W.Frag) (mg : Str → Option Value) (C : Addr) : Prop where
  T : OexC K C
  self : mroIn K C (.ref C) = some true
  noS : mg "super" = none
  top : (P.main.scope.names.lookup ("super" : Str)).isSome = false
  st : nsIn K cStatics "thirdparty.any" = some none
  al : ks_superIn K C C "__init__" = some (some (.builtin "ValueError.__init__"))
  vE : subIn K (.ref C) (.type "ValueError") = some true
section
variable {P : Program} {w : World} {K : PySem.W.Frag} {mg : Str → Option Value} {base : Heap} {CX : CXT} {k : Nat} {f cda cc C : Addr} {name qual : Str} {params : Arguments} {rest : List Stmt} {scope : Scope} {kV doc pm ct oc ccl cl : Value} {an od cdd cld : Option Addr} {osl ccs csl : Array (Option Value)}
  {vs0 : Array Value} {file : Str} {tf : Tok} {ps N : List Str} {sp : Sp} {p0 p1 p2 pos pos' : Pos} {arg : Expr} {ar : Arg}
abbrev nfOf (name qual : Str) (params : Arguments) (body : List Stmt) (scope : Scope) (cc cda : Addr) : NdefX.NF := ⟨name, qual, params, body, scope, [("__class__", cc)], cda⟩
theorem fn_sup (U : SupC P K mg C)
    (lk : K.lookup f = some ⟨oc, od, .func (ksFn name qual params (.Expr (.Call (.Attribute (.Call (.Name "super" p0) [] [] p1) "__init__" p2) [arg] [] pos) pos' :: rest) scope .none kV doc pm an (.ref cda) ct cc), osl⟩)
    (hcd : codeIn K (.ref cda) qual = true) (hcode : K.lookup cda = some ⟨ccl, cdd, .fields vs0, ccs⟩) (hvs : vs0[2]? = some (.str file tf)) (hfile : ((P.main.file : Str) == file) = true)
    (hcell : K.lookup cc = some ⟨cl, cld, .cell (some (.ref C)), csl⟩)
    (S : NdefX.NScope N ps ["__class__"] scope) (hks : scope.names.lookup ("super" : Str) = some .globalImplicit) (hp : (params.posonlyargs ++ params.args).head? = some ar) (hps : ps.head? = some ar.arg)
    (hev : ∀ env : Env, ∃ pl, eval (.Call (.Attribute (.Call (.Name "super" p0) [] [] p1) "__init__" p2) [arg] [] pos) env = (do
      let ov ← attributeBase (.Call (.Name "super" p0) [] [] p1) "__init__" env (eval (.Call (.Name "super" p0) [] [] p1) env)
      standAt p2.atName
      let (f, first) ← holding [ov] (getMethod ov "__init__" pl)
      callWith pos f first (backTo pos (starEach [arg] env)) []))
    (hse : ∀ env, starEach [arg] env = (false, eval arg env) :: starEach [] env) (hsw : ∀ env, swapsWith (.Call (.Attribute (.Call (.Name "super" p0) [] [] p1) "__init__" p2) [arg] [] pos) none pos'.line env = pure false)
    (len : ∀ vs H Q E, sp vs H Q E → vs.length = ps.length)
    (hbody : ∀ (A : Around) (outer : List Env) (s : Shared) (H : Hp) (vs : List V) (Q : VK) (E : XK), Room k (A.deeper (NdefX.envF (nfOf name qual params (.Expr (.Call (.Attribute (.Call (.Name "super" p0) [] [] p1) "__init__" p2) [arg] [] pos) pos' :: rest) scope cc cda) f s.heap.objs.size)) → sp vs H Q E →
      ∃ (a : Addr) (ta : TA) (t : TS), vs.head? = some (.ref a) ∧ H a = some (exo a C none) ∧
        PA (NdefX.ncx CX P w K mg base N (nfOf name qual params (.Expr (.Call (.Attribute (.Call (.Name "super" p0) [] [] p1) "__init__" p2) [arg] [] pos) pos' :: rest) scope cc cda) f A outer s H E) [arg] ta ∧
        PSs (NdefX.ncx CX P w K mg base N (nfOf name qual params (.Expr (.Call (.Attribute (.Call (.Name "super" p0) [] [] p1) "__init__" p2) [arg] [] pos) pos' :: rest) scope cc cda) f A outer s H E) rest t ∧
        ta (NdefX.startF N vs [none]) H (fun us H1 => us.length ≤ 1000 ∧ H1 a = some (exo a C none) ∧ t { nx := fun _ H' => Q .non H', rt := Q } (NdefX.startF N vs [none]) H1)) :
    FnOk P w K mg base CX (k + 1) f (ksFn name qual params (.Expr (.Call (.Attribute (.Call (.Name "super" p0) [] [] p1) "__init__" p2) [arg] [] pos) pos' :: rest) scope .none kV doc pm an (.ref cda) ct cc) ps sp := by
  constructor
  · exact len
  intro A outer s H args us vs Q E hr e0 hb r hsp
  have hl := len _ _ _ _ hsp
  have stays : ∀ b o, base.get? b = some o → s.heap.get? b = some o := fun b o e => (e0.bs b o e).1
  have KX := e0.mod.kin.keeps stays
  obtain ⟨a, ta, t, hva, hHa, hPA, hPS, hta⟩ := hbody A outer s H vs Q E (hr.deeper _) hsp
  refine ks_codeAny_call_defAt (fd := ksFn name qual params _ scope .none kV doc pm an (.ref cda) ct cc) (binds := ps.zip us) hr.depth (KX _ _ lk) rfl (e0.mod.nolimit.keeps stays) (codeRec_of KX hcd) rfl hb (fun y hy => S.nocell y hy) (fun y hy => S.par y.1 (List.of_mem_zip hy).1) (fun h₁ hns kp => ?_) S.co S.gen S.kind
  have hcl : ([("__class__", cc)] : List (Str × Addr)).lookup ("__class__" : Str) = some cc := by simp [List.lookup]
  have ccO : s.heap.get? cc = some ⟨cl, cld, .cell (some (.ref C)), csl⟩ := KX _ _ hcell
  have onlyc : ∀ y c, ([("__class__", cc)] : List (Str × Addr)).lookup y = some c → y = "__class__" ∧ c = cc := fun y c e => by
    by_cases hy : y = "__class__"
    · subst hy
      rw [hcl] at e
      exact ⟨rfl, (Option.some.inj e).symm⟩
    · have q : (y == ("__class__" : Str)) = false := by simpa using hy
      simp [List.lookup, q] at e
  have CA : NdefX.CellsAt [("__class__", cc)] ["__class__"] [none] s.heap H := {
    len := rfl
    all := fun y c e => by
      obtain ⟨_, rfl⟩ := onlyc y c e
      exact ⟨(e0.bs _ _ (e0.mod.kin _ _ hcell)).2, _, _, ccO, rfl⟩
    inj := fun x y c e1 e2 => by rw [(onlyc x c e1).1, (onlyc y c e2).1]
    has := fun i y e => by
      cases i with
      | zero =>
        cases e
        exact ⟨cc, hcl, fun v z => by cases z⟩
      | succ i => cases e }
  have I := NdefX.inv_startN (CX := CX) (F := nfOf name qual params (.Expr (.Call (.Attribute (.Call (.Name "super" p0) [] [] p1) "__init__" p2) [arg] [] pos) pos' :: rest) scope cc cda) (f := f) (E := E) (tk := s.toks + (ps.zip us).length) S hr.hd e0 hl r CA hns kp
  -- the object
  obtain ⟨u0, hu0, ru0⟩ : ∃ u0, us[0]? = some u0 ∧ RelV (.ref a) u0 := r.get (by rw [← List.head?_eq_getElem?]; exact hva)
  cases (show u0 = Value.ref a from ru0)
  have hself : (ps.zip us).reverse.lookup ar.arg = some (.ref a) := by
    have ndP : ps.Nodup := by
      have q := S.nd.sublist (List.take_sublist (ps.length + (["__class__"] : List Str).length) N)
      rw [S.pre] at q
      exact (List.nodup_append.mp q).1
    exact NdefX.zip_look (i := 0) ndP (by rw [← List.head?_eq_getElem?]; exact hps) hu0
  have hka : scope.names.lookup ar.arg = some .local := S.par _ (List.mem_of_getElem? (i := 0) (by rw [← List.head?_eq_getElem?]; exact hps))
  have hkc : scope.names.lookup ("__class__" : Str) = some .free := S.frk _ (by simp)
  have K1 : K.In h₁ := KX.keeps kp
  obtain ⟨nm, q, N', bs, bm, sn, sub, ab, col, dd, k0, k1, k2, k3, k5, hC, hbm⟩ := U.T.cls
  have hcd' : clsIn K C = some { name := nm, bases := bs, mro := .ref C :: bm, ns := N', qualname := q, hasDict := true, slotNames := sn, subclasses := sub, abstract := ab, collection := col, hasDel := false } := by unfold clsIn; rw [hC] <;> rfl
  obtain ⟨t1, ho⟩ := exo_at I.hok hHa
  obtain ⟨pl, hpl⟩ := hev (NdefX.envF (nfOf name qual params (.Expr (.Call (.Attribute (.Call (.Name "super" p0) [] [] p1) "__init__" p2) [arg] [] pos) pos' :: rest) scope cc cda) f s.heap.objs.size)
  refine ks_wpAt_execs_cons (ks_wpAt_Expr_any (ks_wpAt_MethodCall (pl := pl) ?_ hpl) (by show (scope.kind == .module && _) = false; rw [S.kind]; rfl) (hsw _))
  have oD : h₁.get? C = some (excClassObj nm q C N' bs bm true sn sub ab col dd k0 k1 k2 k3 k5 "ValueError.__new__") := K1 _ _ hC
  obtain ⟨mb, hb1, hb2⟩ := e0.mod.blt
  have bk : ∀ b o, base.get? b = some o → h₁.get? b = some o := fun b o e => kp b o (e0.bs b o e).1
  refine ks_wpAt_super_base (env := NdefX.envF (nfOf name qual params (.Expr (.Call (.Attribute (.Call (.Name "super" p0) [] [] p1) "__init__" p2) [arg] [] pos) pos' :: rest) scope cc cda) f s.heap.objs.size) hks hkc (by decide) rfl (K1 _ _ lk) rfl hp rfl (K1 _ _ hcode) rfl hvs hfile U.top ?_
  refine ks_loadName_global S.kind hks (Calls.loadGlobal_builtin (env := NdefX.envF (nfOf name qual params (.Expr (.Call (.Attribute (.Call (.Name "super" p0) [] [] p1) "__init__" p2) [arg] [] pos) pos' :: rest) scope cc cda) f s.heap.objs.size) (e0.mod.glob.keeps bk) U.noS (hb1.keeps bk) ((hb2 "super" (by decide)).trans (by decide +kernel : bootBuiltins "super" = some (.type "super"))) ⟨rfl, ?_⟩)
  refine wpAny_loadName_free S.kind hkc hcl ⟨_, K1 _ _ hcell, rfl⟩ ?_
  refine wpAny_loadName_local S.kind hka hns hself ?_
  refine ks_wpAny_isType_cls oD rfl ⟨rfl, ?_⟩
  refine ks_wpAny_call_super oD rfl ho rfl (fun c z => by cases z) (looks_mroIn K1 U.self) (fun h2 e2 k2 => ?_)
  have K2 : K.In h2 := K1.keeps k2
  have hx2 := k2 _ _ ho
  have Iat : InstAt h2 a { cls := .ref C, dict := none, data := .fields #[.ref t1, .none, .none, .none, .bool false, .none] } C none := ⟨hx2, rfl, rfl, trivial⟩
  have hal := U.al
  unfold ks_superIn at hal
  rw [hcd'] at hal
  have I2 := I.kept (h' := h2) (t' := s.toks + (ps.zip us).length + 1) k2
  refine kxs_getMethod kxs_ValueError e2 (looks_opaque K2 U.st) (l₀ := .ref C :: bm) (fun A Q E s k q => wpAny_bind ((looks_clsIn K2 hcd') A _ E s k (wpAny_pure q))) rfl K2 hal (Iat.type.andThen (looks_subIn K2 U.vE)) (ks_ne K2 Iat hcd') (by decide) ?_
  have I3 := I2.kept (h' := h2.push (kxs_mw "ValueError.__init__" a)) (t' := s.toks + (ps.zip us).length + 1) fun b o e => Heap.get?_push_of_some _ e
  have hu3 : (h2.push (kxs_mw "ValueError.__init__" a)).get? h2.objs.size = some (kxs_mw "ValueError.__init__" a) := Heap.get?_push_at rfl rfl
  have I4 := I3.pins_of (pins' := [(h2.objs.size, kxs_mw "ValueError.__init__" a)]) fun p hp => by
    rw [List.mem_singleton] at hp
    subst hp
    exact ⟨hu3, I2.hok.fresh (Nat.le_refl _), Nat.ne_of_gt I2.lt, I2.nofs (Nat.le_refl _), fun v z => by cases z⟩
  show wpAny _ _ (callWith pos (.ref h2.objs.size) [] (backTo pos (starEach [arg] (NdefX.envF (nfOf name qual params (.Expr (.Call (.Attribute (.Call (.Name "super" p0) [] [] p1) "__init__" p2) [arg] [] pos) pos' :: rest) scope cc cda) f s.heap.objs.size))) []) _ _ _
  have ev := hPA.run pos [(h2.objs.size, kxs_mw "ValueError.__init__" a)] _ _ H _ I4 hta
  rw [show (NdefX.ncx CX P w K mg base N (nfOf name qual params (.Expr (.Call (.Attribute (.Call (.Name "super" p0) [] [] p1) "__init__" p2) [arg] [] pos) pos' :: rest) scope cc cda) f A outer s H E).env = NdefX.envF (nfOf name qual params (.Expr (.Call (.Attribute (.Call (.Name "super" p0) [] [] p1) "__init__" p2) [arg] [] pos) pos' :: rest) scope cc cda) f s.heap.objs.size from rfl, hse] at ev
  rw [hse]
  refine kxs_callWith (i := "ValueError.__init__") (x := a) (by rfl) (Calls.evalArgs_plain (thn ev fun us1 s4 hh => ?_))
  obtain ⟨vs1, H1, J, r1, hlen, ha1, ht⟩ := hh
  have hu4 := (J.pin (h2.objs.size, kxs_mw "ValueError.__init__" a) (List.mem_append_right _ (by simp))).1
  refine ⟨hu4, ?_⟩
  obtain ⟨t2, ho4⟩ := exo_at J.hok ha1
  have hC4 := J.kIn _ _ hC
  obtain ⟨h4, g4, d4, t4, os4⟩ := s4
  show wpAny _ _ (call (.ref h2.objs.size) us1 []) _ _ _
  refine call_kw hC4 ho4 hu4 (by rw [← Paired.length r1, sizeLine_eq]; omega) fun h5 t5 k5 hx5 => ?_
  have J0 := J.pins_of (pins' := []) fun p hp => nomatch hp
  have J5 := J0.write (t' := t4) (x := a) (e := a) (o := exo a C none) (h' := h5) (by rw [ha1]; exact True.intro) (.inl rfl) k5 ⟨_, hx5⟩ (exo_ok hx5)
  have eu : upd H1 a (exo a C none) = H1 := by
    funext b
    by_cases hb : b = a
    · rw [hb, upd_same, ha1]
    · rw [upd_ne hb]
  rw [eu] at J5
  exact wpAt_of_wpAny (wpAny_mono (hPS.run [] _ _ H1 _ J5 ht) (fun fl s' hs => ce_of (X := NdefX.ncx CX P w K mg base N (nfOf name qual params (.Expr (.Call (.Attribute (.Call (.Name "super" p0) [] [] p1) "__init__" p2) [arg] [] pos) pos' :: rest) scope cc cda) f A outer s H E) rfl hs) fun e s' hs => hs)
end
end SupX
/-! ## super().m(..) of an instance: read in the body itself -/
namespace SupM
open PySem PySem.Spec PySem.W L2
open PyProof.Rows hiding wpAt wpAt_mono wpAt_bind
structure PEt (X : Cx) (body : List Stmt) (e : Expr) (t : TE) : Prop where
  run : ∀ (pins : List (Addr × Obj)) (s : Shared) (σ : L2.St) (H : Hp) (Q : VK), Inv X pins σ H s → t σ H Q → wpAt (model X.prog X.w) X.A (.func body X.env) (eval e X.env) (EP X pins σ Q) X.xe s
structure PSt (X : Cx) (body : List Stmt) (sts : List Stmt) (t : TS) : Prop where
  run : ∀ (pins : List (Addr × Obj)) (s : Shared) (σ : L2.St) (H : Hp) (D : Ends), Inv X pins σ H s → t D σ H → wpAt (model X.prog X.w) X.A (.func body X.env) (execs sts X.env) (SP X pins D) X.xe s
section
variable {X : Cx} {body rest sts : List Stmt} {e a b : Expr} {es : List Expr} {ta tb te : TE} {pos : Pos} {st : Stmt} {t u : TS}
theorem PEt.of (h : PE X e te) : PEt X body e te := ⟨fun pins s σ H Q I k => wpAt_of_wpAny (h.run pins s σ H Q I k)⟩
theorem PSt.of (h : PSs X sts t) : PSt X body sts t := ⟨fun pins s σ H D I k => wpAt_of_wpAny (h.run pins s σ H D I k)⟩
end
/-! ### a call whose first argument is read so -/
section
variable {M : Model} {A : Around} {c : Code} {E : Value → Shared → Prop} {s : Shared} {K : Frag} {h₀ : Heap} {env : Env} {f : Value} {pos : Pos}
end
section
variable {X : Cx} {CX : CXT} {k : Nat} {f : Addr} {fd : FuncData} {ps : List Str} {sp : Sp} {x : Str} {q pos : Pos} {e : Expr} {es : List Expr} {te : TE} {ta : TA} {E : XK} {body : List Stmt}
end
end SupM
namespace SupM
open PySem PySem.Spec PySem.W L2
open PyProof.Rows hiding wpAt wpAt_mono wpAt_bind
/-- a class's def that says super(): what the written part has of it -/
structure DefS (P : Program) (K : Frag) (D : Addr) (name qual : Str) (st : Stmt) (f cda cc : Addr) (fd : FuncData) : Prop where
  ex : ∃ (oc ccl cl : Value) (od cdd cld an : Option Addr) (osl ccs csl : Array (Option Value)) (kV doc pm ct : Value) (vs0 : Array Value) (file : Str) (tf : Tok), fd = ksFn name qual (defArgs st) (defBody st) (defScope st) .none kV doc pm an (.ref cda) ct cc ∧ K.lookup f = some ⟨oc, od, .func fd, osl⟩ ∧
    codeIn K (.ref cda) qual = true ∧ K.lookup cda = some ⟨ccl, cdd, .fields vs0, ccs⟩ ∧ vs0[2]? = some (.str file tf) ∧ ((P.main.file : Str) == file) = true ∧ K.lookup cc = some ⟨cl, cld, .cell (some (.ref D)), csl⟩
  cls : (clsIn K D).isSome = true
section
variable {X : Cx} {CX : CXT} {k : Nat} {body : List Stmt} {f cda cc D C f2 : Addr} {m name qual : Str} {fd : FuncData} {ar : Arg} {st : Stmt} {p0 p1 p2 pos : Pos} {e : Expr} {es : List Expr} {t : TA} {sp : Sp} {E : XK} {pl : Sem Bool}
end
section
variable {P : Program} {w : World} {K : Frag} {mg : Str → Option Value} {base : Heap} {CX : CXT} {k : Nat} {f cda cc D : Addr} {name qual : Str} {st : Stmt} {fd : FuncData} {ps N : List Str} {sp : Sp}
abbrev nfD (name qual : Str) (st : Stmt) (cc cda : Addr) : NdefX.NF := SupX.nfOf name qual (defArgs st) (defBody st) (defScope st) cc cda
/-- the rule of such a def -/
theorem fn_at (d : DefS P K D name qual st f cda cc fd) (S : NdefX.NScope N ps ["__class__"] (defScope st)) (len : ∀ vs H Q E, sp vs H Q E → vs.length = ps.length)
    (hbody : ∀ (A : Around) (outer : List Env) (s : Shared) (H : Hp) (vs : List V) (Q : VK) (E : XK), Room k (A.deeper (NdefX.envF (nfD name qual st cc cda) f s.heap.objs.size)) → sp vs H Q E →
      ∃ t, PSt (NdefX.ncx CX P w K mg base N (nfD name qual st cc cda) f A outer s H E) (defBody st) (defBody st) t ∧ t { nx := fun _ H' => Q .non H', rt := Q } (NdefX.startF N vs [none]) H) : FnOk P w K mg base CX (k + 1) f fd ps sp := by
  obtain ⟨oc, ccl, cl, od, cdd, cld, an, osl, ccs, csl, kV, doc, pm, ct, vs0, file, tf, rfl, lk, hcd, hcode, hvs, hfile, hcell⟩ := d.ex
  constructor
  · exact len
  intro A outer s H args us vs Q E hr e0 hb r hsp
  have hl := len _ _ _ _ hsp
  have up : ∀ b o, base.get? b = some o → s.heap.get? b = some o := fun b o e => (e0.bs b o e).1
  have KX := e0.mod.kin.keeps up
  obtain ⟨t, hPS, ht⟩ := hbody A outer s H vs Q E (hr.deeper _) hsp
  refine ks_codeAny_call_defAt (fd := ksFn name qual (defArgs st) (defBody st) (defScope st) .none kV doc pm an (.ref cda) ct cc) (binds := ps.zip us) hr.depth (KX _ _ lk) rfl (e0.mod.nolimit.keeps up) (codeRec_of KX hcd) rfl hb (fun y hy => S.nocell y hy) (fun y hy => S.par y.1 (List.of_mem_zip hy).1) (fun h₁ hns kp => ?_) S.co S.gen S.kind
  have hcl : ([("__class__", cc)] : List (Str × Addr)).lookup ("__class__" : Str) = some cc := by simp [List.lookup]
  have only : ∀ y c, ([("__class__", cc)] : List (Str × Addr)).lookup y = some c → y = "__class__" ∧ c = cc := fun y c e => by
    by_cases hy : y = "__class__"
    · subst hy
      rw [hcl] at e
      exact ⟨rfl, (Option.some.inj e).symm⟩
    · have q : (y == ("__class__" : Str)) = false := by simpa using hy
      simp [List.lookup, q] at e
  have CA : NdefX.CellsAt [("__class__", cc)] ["__class__"] [none] s.heap H := by
    refine ⟨rfl, fun y c e => ?_, fun x y c e1 e2 => by rw [(only x c e1).1, (only y c e2).1], fun i y e => ?_⟩
    · obtain ⟨_, rfl⟩ := only y c e
      exact ⟨(e0.bs _ _ (e0.mod.kin _ _ hcell)).2, _, _, KX _ _ hcell, rfl⟩
    · match i, e with
      | 0, e =>
        cases e
        exact ⟨cc, hcl, fun v z => by cases z⟩
      | _ + 1, e => cases e
  have I := NdefX.inv_startN (CX := CX) (F := nfD name qual st cc cda) (f := f) (E := E) (tk := s.toks + (ps.zip us).length) S hr.hd e0 hl r CA hns kp
  exact ks_wpAt_mono (hPS.run [] _ _ H _ I ht) (fun fl s' out => SupX.ce_of (X := NdefX.ncx CX P w K mg base N (nfD name qual st cc cda) f A outer s H E) rfl out) fun _ _ z => z
end
end SupM
namespace StX
open PySem PySem.Spec PyProof.Rows L2 ClX
end StX
namespace L2
open PySem PySem.Spec PyProof.Rows
/-! ## C(..) by a local name; a def with a star and a keyword -/
def tMakeL (i : Nat) (C : Addr) (sp : Sp) (E : XK) (t : TA) : TE := fun σ H Q => σ[i]? = some (some (.ref C)) ∧ t σ H fun vs H1 => ∀ x dx, H1 x = none → H1 dx = none → dx ≠ x → sp (.ref x :: (vs ++ [])) (upd (upd H1 dx (.own x)) x (.ins C dx [])) (fun v H2 => v = .non ∧ Q (.ref x) H2) E
section
variable {X : Cx} {CX : CXT} {k i : Nat} {f C : Addr} {fd : FuncData} {ps : List Str} {sp : Sp} {E : XK} {x : Str} {p pos : Pos} {e : Expr} {es : List Expr} {t : TA}
theorem pe_makeL (M : Mk X.K C f) (F : FnOk X.prog X.w X.K X.mg X.base CX k f fd ps sp) (room : Room (k + 1) X.A) (hN : X.N[i]? = some x) (hv : Vis X.env.scope x) (hb : Binds X.K fd ps []) (hx : Passes CX X E) (ha : PA X (e :: es) t)
    (db : (x == ("__debug__" : Str)) = false := by decide) (dc : (x == ("__classdict__" : Str)) = false := by decide)
    (he : starEach (e :: es) X.env = (false, eval e X.env) :: starEach es X.env := by rfl) (hpl : (backTo pos (starEach es X.env)).any (·.1) = false := by rfl) : PE X (.Call (.Name x p) (e :: es) [] pos) (tMakeL i C sp E t) := by
  constructor
  intro pins s σ H Q I ⟨at_, ht⟩
  refine wpAny_Call_Name_kw (thn ((pe_var (pos := p) hN hv db dc).run pins s σ H (fun v H1 => v = .ref C ∧ H1 = H) I ⟨.ref C, at_, rfl, rfl⟩) fun u s1 out => ?_)
  have ⟨v, H1, I1, r1, ev, eH⟩ := out
  subst ev eH
  cases r1
  refine PySem.W.callWith_K (h₀ := X.base) I.ok.mod.kin M.kp (thn (ha.run pos pins s1 σ _ _ I1 ht) fun us s2 out2 => ?_) he hpl
  have ⟨vs, H2, I2, r, q⟩ := out2
  exact ⟨I2.kIn, run_make M F room hb .nil hx I2 r q⟩
end
/-- what a def promises that is called with values vs and keywords zs -/
abbrev SpK := List V → List V → Hp → VK → XK → Prop
section
variable {CX : CXT} {P : Program} {w : World} {K : PySem.W.Frag} {mg : Str → Option Value} {base : Heap} {k : Nat} {f : Addr} {nm qual : Str} {pars : Arguments} {body : List Stmt} {sc : Scope} {dV kV doc pm cdv ct oc : Value} {an od : Option Addr}
  {osl : Array (Option Value)} {N : List Str} {sp : Sp} {key star : Str}
end
section
variable {X : Cx} {CX : CXT} {k : Nat} {f : Addr} {ks : List Str} {sp : SpK} {E : XK} {x : Str} {p pos : Pos} {e : Expr} {es : List Expr} {kws : List Keyword} {t tk : TA}
end
/-! ## f(*e, key=v) -/
section
variable {M : Model} {A : Around} {E : Value → Shared → Prop} {s : Shared}
end
section
variable {X : Cx} {CX : CXT} {k : Nat} {f : Addr} {ks : List Str} {sp : SpK} {E : XK} {x : Str} {p pos sp_ : Pos} {e : Expr} {kws : List Keyword} {te : TE} {tk : TA}
end
end L2
namespace L2
open PySem PySem.Spec PyProof.Rows
/-- C(..), C by a local name -/
def tMakeV (i : Nat) (C : Addr) (sp : Sp) (E : XK) (t : TA) : TE := fun σ H Q => σ[i]? = some (some (V.ref C)) ∧ tMake C sp [] E t σ H Q
theorem pe_makeV {X : Cx} {CX : CXT} {k i : Nat} {f C : Addr} {fd : FuncData} {ps : List Str} {sp : Sp} {E : XK} {x : Str} {p pos : Pos} {e : Expr} {es : List Expr} {t : TA} (M : Mk X.K C f) (F : FnOk X.prog X.w X.K X.mg X.base CX k f fd ps sp) (room : Room (k + 1) X.A) (hN : X.N[i]? = some x) (hv : Vis X.env.scope x) (hb : Binds X.K fd ps []) (hx : Passes CX X E) (ha : PA X (e :: es) t)
    (db : (x == ("__debug__" : Str)) = false := by decide) (dc : (x == ("__classdict__" : Str)) = false := by decide)
    (he : starEach (e :: es) X.env = (false, eval e X.env) :: starEach es X.env := by rfl) (hpl : (backTo pos (starEach es X.env)).any (·.1) = false := by rfl) : PE X (.Call (.Name x p) (e :: es) [] pos) (tMakeV i C sp E t) :=
  ⟨fun pins s σ H Q I h => (pe_makeL M F room hN hv hb hx ha db dc he hpl).run pins s σ H Q I ⟨h.1, h.2⟩⟩
theorem FnOk.rawN {P : Program} {w : World} {K : PySem.W.Frag} {mg : Str → Option Value} {base : Heap} {f : Addr} {fd : FuncData} {CX : CXT} {k : Nat} {ps : List Str} {sp : Sp} (F : FnOk P w K mg base CX k f fd ps sp) (b : Binds K fd ps []) : FnR P w K mg base CX k f sp := FnR.imp (F.raw b .nil) fun vs H Q E h => by rw [List.append_nil]; exact h
/-- isinstance(x, D) -/
theorem call_isD {X : Cx} {C D : Addr} {b : Bool} (c : C8.InsC X.K C) (e : PySem.W.kitOne X.K (.ref C) (.ref D) = some b) : CallR X (.builtin "isinstance") (fun xs H Q => ∃ a dx fs, xs = [V.ref a, V.ref D] ∧ H a = some (.ins C dx fs) ∧ Q (.bl b) H) := by
  intro pins s σ H xs us Q I r h
  obtain ⟨a, dx, fs, rfl, ha, q⟩ := h
  obtain ⟨u, w', rfl, ru, rw'⟩ := vals2 r
  cases rw'
  exact isinst_ok I ru (TyOf.ins ha c.cl c.ha c.hn c.htk c.hm) e fun tk => ⟨.bl b, H, I.tok _, rfl, q⟩
/-- .. of x any value, where it is known of every class that comes -/
def rIsAny (K : PySem.W.Frag) (D : Addr) : List V → Hp → VK → Prop := fun xs H Q => (∃ (x : V) (t : String) (b : Bool), xs = [x, .ref D] ∧ TyX K H x (.type t) ∧ PySem.W.kitOne K (.type t) (.ref D) = some b ∧ Q (.bl b) H) ∨
  ∃ a C dx fs b, xs = [V.ref a, V.ref D] ∧ C8.InsC K C ∧ PySem.W.kitOne K (.ref C) (.ref D) = some b ∧ H a = some (.ins C dx fs) ∧ Q (.bl b) H
theorem call_isAny {X : Cx} {D : Addr} : CallR X (.builtin "isinstance") (rIsAny X.K D) := by
  intro pins s σ H xs us Q I r h
  rcases h with ⟨x, t, b, rfl, ty, e, q⟩ | ⟨a, C, dx, fs, b, rfl, c, e, ha, q⟩
  · exact call_isi pins s σ H _ us Q I r ⟨x, .ref D, _, .ref D, b, rfl, .own D, ty, e, q⟩
  · exact call_isD c e pins s σ H _ us Q I r ⟨a, dx, fs, rfl, ha, q⟩
end L2
namespace Dl
open PySem PySem.Spec L2
section
variable {cl : Nat → Addr} {kp : List Nat} {τ σ : L2.St} {F F' H H' : Hp} {fp : Nat → Addr → Prop} {env : Env} {S : Addr → Prop} {K : PySem.W.Frag} {Eh : XK}
/-! ### enumerate -/
def gItES (g : G) : Env → Option (List A × Env) := fun env => (gOne g env).bind fun p => p.1.str?.map fun z => (enumA (strA z), p.2)
theorem si_enumT {pu : Bool} {t : TE} {g : Env → Option (A × Env)} (h : SF cl kp pu t g) : SI cl kp (iEnumT K (tCons t tNil)) (gItET g) := by
  intro τ F H fp env σ Q xs env' I e k
  obtain ⟨⟨a, e1⟩, h1, e⟩ := Option.bind_eq_some_iff.mp e
  obtain ⟨l, hl, z⟩ := Option.map_eq_some_iff.mp e
  cases z
  refine h I h1 fun F1 H1 fp1 v I1 go r _ => ?_
  have : a = .tup l := by cases a <;> cases hl; rfl
  subst this
  obtain ⟨p, vs, rfl, q, r⟩ := r
  refine ⟨p, vs, rfl, SqT.of (I1.le _ _ q), k F1 H1 fp1 _ I1 go (walkd_pair walk_enumT (by unfold enumA; rw [List.length_map, List.length_zipIdx, r.length]) (fun H s => SqT.of (s _ _ q)) fun i x y hx hy hi => ?_)⟩
  obtain ⟨b, hb, rb⟩ := r.at' hy
  cases hx
  exact ⟨.int i, b, by rw [enumA_at, hb]; rfl, rfl, rb⟩
/-! ### calls on a class -/
def gCls (c : Nat) (f : GF) (g : Env → Option (List R × Env)) : G := fun env => (g env).bind fun p => callG f (.fz (.kls c) :: p.1) p.2
theorem se_cmeth {c : Nat} {f : GF} {E : XK} {t : TA} {g : Env → Option (List R × Env)} (h : SR cl kp t g) : SE cl kp false (ClX.tCMeth (cl c) (spD cl f) E (tC (.ref (cl c))) t) (gCls c f g) := by
  intro τ F H fp env σ Q r env' I e k
  obtain ⟨⟨rs, e1⟩, h1, e⟩ := Option.bind_eq_some_iff.mp e
  refine ⟨rfl, h I h1 fun F1 H1 fp1 vs I1 go1 rr => call_ok I1 (rs := .fz (.kls c) :: rs) ⟨_, _, rfl, rfl, rr⟩ e fun F' H' fp' S v I' go' r' => k F' H' fp' S v I' (go1.trans go') r' fun z => nomatch z⟩
def gSta (f : GF) (g : Env → Option (List R × Env)) : G := fun env => (g env).bind fun p => callG f p.1 p.2
def gMakeN (i c : Nat) (f : GF) (g : Env → Option (List R × Env)) : G := fun env => match env[i]? with
  | some (.fl (.fz (.kls c'))) => if c' = c then (g env).bind fun p => makeG c f p.1 p.2 else none
  | _ => none
theorem se_makeN {i c : Nat} {f : GF} {E : XK} {t : TA} {g : Env → Option (List R × Env)} (h : SR cl kp t g) : SE cl kp false (tMakeV i (cl c) (spD cl f) E t) (gMakeN i c f g) := by
  intro τ F H fp env σ Q r env' I e k
  unfold gMakeN at e
  split at e
  case h_2 => cases e
  rename_i c' hc
  split at e
  case isFalse => cases e
  rename_i hcc
  subst hcc
  obtain ⟨v, hv, q⟩ := I.at hc rfl
  have q : v = .ref (cl c') := q
  subst q
  obtain ⟨⟨rs, e1⟩, h1, e⟩ := Option.bind_eq_some_iff.mp e
  refine ⟨hv, h I h1 fun F1 H1 fp1 vs I1 go1 rr x dx nx nd ne => ?_⟩
  rw [List.append_nil]
  exact make_ok I1 rr e (fun F' H' fp' S v I' go' r' => k F' H' fp' S v I' (go1.trans go') r' fun z => nomatch z) nx nd ne
/-! ### super().m(..) -/
def gSup (c : Nat) (f : GF) (g : Env → Option (List R × Env)) : G := fun env => (gT (gV 0) env).bind fun o => (o.1.vw o.2).bind fun a => if a.isIns c then (g env).bind fun p => callG f (o.1 :: p.1) p.2 else none
/-! ### f(*e, key=v) -/
def gStK (f : GF) (g : Env → Option (A × Env)) (ga : Env → Option (List R × Env)) : G := fun env => (g env).bind fun p => p.1.lsts.bind fun xs => if xs.length ≤ sizeLine then (ga p.2).bind fun q => match q.1 with
  | [r] => callG f [r, .fz (.tup xs)] q.2
  | _ => none
  else none
/-! ### isinstance with an own class -/
def fIsO (tab : List (Nat × Bool)) : A → Option A
  | .ins c _ _ => (tab.lookup c).map .bl
  | .non => some (.bl false) | .bl _ => some (.bl false) | .int _ => some (.bl false) | .str _ => some (.bl false) | .lst _ => some (.bl false) | .tup _ => some (.bl false)
  | _ => none
structure KitO (K : PySem.W.Frag) (cl : Nat → Addr) (c : Nat) (tab : List (Nat × Bool)) : Prop where
  own : ∀ c' b, tab.lookup c' = some b → C8.InsC K (cl c') ∧ PySem.W.kitOne K (.ref (cl c')) (.ref (cl c)) = some b
  base : ∀ t ∈ ["NoneType", "bool", "int", "str", "list", "tuple"], PySem.W.kitOne K (.type t) (.ref (cl c)) = some false
theorem se_isO {c : Nat} {tab : List (Nat × Bool)} {pa : Bool} {ta : TE} {ga : G} (kt : KitO K cl c tab) (ha : SE cl kp pa ta ga) : SE cl kp pa (tCB (rIsAny K (cl c)) (tCons ta (tCons (tC (.ref (cl c))) tNil))) (gUn (fIsO tab) ga) := by
  refine se_un (r := fun x H Q => rIsAny K (cl c) [x, .ref (cl c)] H Q) (fun F H x a r Q s ra hf k => ?_) ha
  cases a with
  | ins c' ns xs =>
    obtain ⟨b, hb, rfl⟩ := Option.map_eq_some_iff.mp hf
    obtain ⟨p, dx, vs, rfl, hp, _⟩ := ra
    obtain ⟨i1, i2⟩ := kt.own _ _ hb
    exact .inr ⟨p, _, dx, _, b, rfl, i1, i2, hp, k _ rfl⟩
  | non => cases hf; cases ra; exact .inl ⟨_, "NoneType", _, rfl, .base .non, kt.base _ (by simp), k _ rfl⟩
  | bl y => cases hf; cases ra; exact .inl ⟨_, "bool", _, rfl, .base (.bl y), kt.base _ (by simp), k _ rfl⟩
  | int y => cases hf; cases ra; exact .inl ⟨_, "int", _, rfl, .base (.int y), kt.base _ (by simp), k _ rfl⟩
  | str y => cases hf; cases ra; exact .inl ⟨_, "str", _, rfl, .base (.str y), kt.base _ (by simp), k _ rfl⟩
  | lst xs => cases hf; obtain ⟨p, vs, rfl, q, r⟩ := ra; exact .inl ⟨_, "list", _, rfl, .base (.lst q), kt.base _ (by simp), k _ rfl⟩
  | tup xs => cases hf; obtain ⟨p, vs, rfl, q, r⟩ := ra; exact .inl ⟨_, "tuple", _, rfl, .base (.tup (s _ _ q)), kt.base _ (by simp), k _ rfl⟩
  | _ => cases hf
/-! ### list(a dict) -/
def gLsD (g : G) : G := fun env => (gOne g env).bind fun p => p.1.keysD.map fun xs => (.ow (.fl (.lst xs)), p.2)
/-! ### a, b = e, f -/
def gPar (i j : Nat) (ga gb : G) : GS := fun env => (gCons (gS false ga) (gCons (gS false gb) gNil) env).bind fun p => match p.1 with
  | [a, b] => some (.nx, (p.2.set i (.fl (.fz a))).set j (.fl (.fz b)))
  | _ => none
end
/-! ### a def that says super() -/
section
variable {P : Program} {w : World} {K : PySem.W.Frag} {mg : Str → Option Value} {base : Heap} {cl : Nat → Addr} {Eh : XK}
theorem _root_.SupM.DefS.okD {f cda cc D : Addr} {name qual : Str} {st : Stmt} {fd : FuncData} {N ps : List Str} {k : Nat} (d : SupM.DefS P K D name qual st f cda cc fd) (S : NdefX.NScope N ps ["__class__"] (defScope st)) (ra kp : List Nat) (m : Nat) (g : GS)
    (hN : N.length = ps.length + m) (h1 : 1 ≤ m) (hk : ((List.range ps.length).all fun i => ra.contains i || kp.contains i) = true)
    (body : ∀ (A : Around) (outer : List PySem.Env) (s : Shared) (H : Hp) (E : XK), Room k (A.deeper (NdefX.envF (SupM.nfD name qual st cc cda) f s.heap.objs.size)) →
      ∃ t, SupM.PSt (NdefX.ncx CX0 P w K mg base N (SupM.nfD name qual st cc cda) f A outer s H E) (defBody st) (defBody st) t ∧ SS cl kp E t g) : FnOk P w K mg base CX0 (k + 1) f fd ps (spD cl (fnD ra ps.length m g)) := by
  refine SupM.fn_at d S (fun vs H Q E h => ?_) (fun A outer s H vs Q E hr h => ?_)
  · obtain ⟨F, fp, os, res, os', I, e, _⟩ := h
    obtain ⟨l, _⟩ := fnD_inv e
    have := I.len
    rw [List.length_map] at this
    omega
  · obtain ⟨t, ht, hs⟩ := body A outer s H E hr
    refine ⟨t, ht, ?_⟩
    have q := body_ok (E := E) hN (fun i hi hr => by
      have := List.all_eq_true.mp hk i (List.mem_range.mpr hi)
      rcases Bool.or_eq_true_iff.mp this with z | z
      · exact (hr (by simpa using z)).elim
      · simpa using z) hs h
    have hl : vs.length = ps.length := by
      obtain ⟨F, fp, os, res, os', I, e, _⟩ := h
      obtain ⟨l, _⟩ := fnD_inv e
      have := I.len
      rw [List.length_map] at this
      omega
    have eq : NdefX.startF N vs [none] = L2.start N vs := by
      unfold NdefX.startF L2.start
      have : N.length - vs.length = (N.length - vs.length - 1) + 1 := by omega
      rw [this, List.replicate_succ]
      rfl
    rw [eq]
    exact q
end
end Dl
namespace L2
open PySem PySem.Spec PyProof.Rows
end L2
namespace Dl
open PySem PySem.Spec L2
section
variable {cl : Nat → Addr} {kp : List Nat} {τ σ : L2.St} {F F' H H' : Hp} {fp : Nat → Addr → Prop} {env : Env} {S : Addr → Prop} {K : PySem.W.Frag}
end
end Dl
namespace ItY
open PySem PySem.Spec PyProof.Rows L2 ItX
section
variable {prog : Program} {w : World} {A : Around} {E : Value → Shared → Prop} {s : Shared} {t : Addr} {its : Array Value}
end
end ItY
namespace L2
open PySem PySem.Spec PyProof.Rows ItX ItY
section
variable {P : Program} {w : World} {K : PySem.W.Frag} {mg : Str → Option Value} {base : Heap}
end
end L2
namespace Dl
open PySem PySem.Spec L2
end Dl
namespace Dl
open PySem PySem.Spec L2
/-! ## keywords and defaults -/
inductive Src where
  | p (i : Nat) | k (i : Nat) | d (a : A)
def patV (pat : List Src) (vs zs : List V) : List V := pat.map fun
  | .p i => vs.getD i .non
  | .k i => zs.getD i .non
  | .d a => a.sc.getD .non
def patR : List Src → List R → List R → Option (List R)
  | [], _, _ => some []
  | .p i :: pat, rs, zs => rs[i]?.bind fun r => (patR pat rs zs).map (r :: ·)
  | .k i :: pat, rs, zs => zs[i]?.bind fun r => (patR pat rs zs).map (r :: ·)
  | .d a :: pat, rs, zs => a.sc.bind fun _ => (patR pat rs zs).map (.fz a :: ·)
section
variable {cl : Nat → Addr} {kp : List Nat} {τ σ : L2.St} {F F' H H' : Hp} {fp : Nat → Addr → Prop} {env : Env} {S : Addr → Prop} {K : PySem.W.Frag} {Eh : XK}
theorem RRs.cons1 {r : R} {v : V} {rs : List R} {vs ws : List V} {i : Nat} (h : RRs cl F σ rs vs) (e : rs[i]? = some r) {qs : List R} (t : RRs cl F σ qs ws) : RRs cl F σ (r :: qs) (vs.getD i .non :: ws) := by
  obtain ⟨v, hv, w⟩ := h.at e
  have : vs.getD i .non = v := by rw [List.getD_eq_getElem?_getD, hv]; rfl
  rw [this]
  cases r with
  | fz a => exact ⟨v, _, rfl, w, t⟩
  | pl j => exact ⟨v, _, rfl, w, t⟩
  | pf _ _ => exact w.elim
  | ow _ => exact w.elim
theorem RRs.pat {rs zs : List R} {vs ws : List V} (h : RRs cl F σ rs vs) (g : RRs cl F σ zs ws) : ∀ {pat : List Src} {qs : List R}, patR pat rs zs = some qs → RRs cl F σ qs (patV pat vs ws)
  | [], _, e => by cases e; rfl
  | .p i :: pat, _, e => by
    obtain ⟨r, hr, e⟩ := Option.bind_eq_some_iff.mp e
    obtain ⟨qs, hq, rfl⟩ := Option.map_eq_some_iff.mp e
    exact RRs.cons1 (v := .non) h hr (RRs.pat h g hq)
  | .k i :: pat, _, e => by
    obtain ⟨r, hr, e⟩ := Option.bind_eq_some_iff.mp e
    obtain ⟨qs, hq, rfl⟩ := Option.map_eq_some_iff.mp e
    exact RRs.cons1 (v := .non) g hr (RRs.pat h g hq)
  | .d a :: pat, _, e => by
    obtain ⟨v, hv, e⟩ := Option.bind_eq_some_iff.mp e
    obtain ⟨qs, hq, rfl⟩ := Option.map_eq_some_iff.mp e
    exact ⟨v, _, by show (a.sc.getD .non) :: patV pat vs ws = _; rw [hv]; rfl, Rp.of_sc hv, RRs.pat h g hq⟩
/-- C(.., k=v): the instance is the pattern's first -/
def gMakeK (c : Nat) (f : GF) (n m : Nat) (pat : List Src) (g gk : Env → Option (List R × Env)) : G := fun env => (g env).bind fun p => (gk p.2).bind fun q => if p.1.length = n ∧ q.1.length = m then (patR pat (.fz .non :: p.1) q.1).bind fun rs => makeG c f rs q.2 else none
/-! ### o.f += k -/
/-! ### sorted(texts) -/
end
end Dl
namespace Dl
open PySem PySem.Spec L2
section
variable {cl : Nat → Addr} {kp : List Nat} {τ σ : L2.St} {F F' H H' : Hp} {fp : Nat → Addr → Prop} {env : Env} {S : Addr → Prop} {K : PySem.W.Frag}
theorem RpL.erase : ∀ {xs : List A} {vs : List V} (k : Nat), RpL cl F xs vs → RpL cl F (xs.eraseIdx k) (vs.eraseIdx k)
  | [], _, _, h => by cases h; exact rfl
  | _ :: _, _, 0, h => by obtain ⟨v, r, rfl, q, z⟩ := h; exact z
  | _ :: _, _, k + 1, h => by obtain ⟨v, r, rfl, q, z⟩ := h; exact ⟨v, _, rfl, q, RpL.erase k z⟩
/-! ### range(a, -1, -1), range(a, b, -1) -/
/-! ### zip of two tuples -/
def gItZT (g h : Env → Option (A × Env)) : Env → Option (List A × Env) := fun env => (g env).bind fun p => (h p.2).bind fun q => p.1.tups.bind fun xs => q.1.tups.map fun ys => (zipA xs ys, q.2)
end
end Dl
namespace L2
open PySem PySem.Spec PyProof.Rows
theorem PI.alt {X : Cx} {tg e : Expr} {t u : TI} (a : PI X tg e t) (b : PI X tg e u) : PI X tg e (Dl.tAltI t u) := ⟨fun pins s σ H R I h => h.elim (a.run pins s σ H R I) (b.run pins s σ H R I)⟩
end L2
namespace Dl
open PySem PySem.Spec L2
section
variable {cl : Nat → Addr} {kp : List Nat} {τ σ : L2.St} {F F' H H' : Hp} {fp : Nat → Addr → Prop} {env : Env} {S : Addr → Prop} {K : PySem.W.Frag} {Eh : XK}
theorem SS.lk {i : Nat} {a : TE} {g : GS} (h : SS cl kp Eh (tAsg (tAlt a (tLockE a)) (gName i)) g) : SS cl kp Eh (tAltS (tAsg a (gName i)) (tLock (tAsg a (gName i)))) g := fun τ F H fp env σ D f env' I e k => h I e k
/-! ### two clauses, the first over a dict -/
end
section
variable {P : Program} {w : World} {K : PySem.W.Frag} {mg : Str → Option Value} {base : Heap} {cl : Nat → Addr} {Eh : XK}
end
end Dl
namespace Dl
open PySem PySem.Spec L2
section
variable {cl : Nat → Addr} {kp : List Nat} {τ σ : L2.St} {F F' H H' : Hp} {fp : Nat → Addr → Prop} {env : Env} {S : Addr → Prop} {K : PySem.W.Frag} {Eh : XK}
def gMakeR0' (c n : Nat) (f : GF) (g : Env → Option (List R × Env)) : G := fun env => (g env).bind fun p => if p.1.length = n then makeG c f (p.1 ++ [.fz (.dK [] [])]) p.2 else none
abbrev gMakeR0 := gMakeR0'
end
end Dl
/-! ## a != b, own instances of a class with __eq__ and no __ne__ -/
namespace NeX
open PySem PySem.W PySem.Calls PyProof.Rows
section
variable {prog : Program} {w : World} {A : Around} {E : Value → Shared → Prop} {s : Shared} {K : Frag} {x C f : Addr} {ox : Obj} {od : Option Obj} {y : Value}
end
end NeX
namespace L2
open PySem PySem.Spec PyProof.Rows
section
variable {X : Cx} {CX : CXT} {k : Nat} {C f : Addr} {fd : FuncData} {ps : List Str} {sp : Sp} {E : XK}
end
end L2
namespace Dl
open PySem PySem.Spec L2
section
variable {cl : Nat → Addr} {kp : List Nat} {τ σ : L2.St} {F F' H H' : Hp} {fp : Nat → Addr → Prop} {env : Env} {S : Addr → Prop} {K : PySem.W.Frag}
def gNeO (c : Nat) (f : GF) (ga gb : G) : G := fun env => (gOp2 (bothIns c) false f ga gb env).bind fun p => (negR true p.1).map fun r => (r, p.2)
end
end Dl
namespace Dl
open PySem PySem.Spec L2
/-! ## the law's def: its script is not tracked but in the box -/
theorem updN {H H' : Hp} {D : Addr} {o : HO} (s : Same H H') (hD : H D = none) : Same H (L2.upd H' D o) := fun b u e => by
  rw [L2.upd_ne (L2.ne_of_none e hD)]
  exact s b u e
theorem updM {H H' : Hp} {p : Addr} {o : HO} (s : Same H H') (n : H' p = none) : Same H (L2.upd H' p o) := fun b u e => by
  rw [L2.upd_ne (L2.ne_of_none (s b u e) n)]
  exact s b u e
theorem newH {H : Hp} {D : Addr} {o : HO} (hD : H D = none) : Same H (L2.upd H D o) := updN (Same.refl H) hD
theorem yesT {σ : L2.St} {H : Hp} {R : Bool → Hp → Prop} (h : R true H) : tYes σ H R := h
def spLaw (K : PySem.W.Frag) : Sp := fun vs H Q _ => ∃ (a : Addr) (ns : List Int), vs = [.ref a] ∧ SqL K H a (ns.map V.int) ∧ ns.length ≤ 63 ∧ ∀ H', Q (.bl true) H'
def vI (l : List Int) : List V := l.map V.int
def spBox (K : PySem.W.Frag) : Sp := fun vs H Q _ => ∃ (a : Addr) (ns : List Int), vs = [.ref a] ∧ SqL K H a (ns.map V.int) ∧ ns.length ≤ 63 ∧
  ∀ H' b c cs, Same H H' → c ≠ b → H' b = some (.lst [.ref c, .int 0, .int 0, .int 0]) → H' c = some (.lst (vI cs)) → (∀ x ∈ cs, 0 ≤ x) → Q (.ref b) H'
theorem vI_len (l : List Int) : (vI l).length = l.length := List.length_map _
theorem vI_at {l : List Int} {i : Nat} {v : V} (h : (vI l)[i]? = some v) : ∃ x, l[i]? = some x ∧ v = .int x := by
  unfold vI at h
  rw [List.getElem?_map] at h
  obtain ⟨x, hx, e⟩ := Option.map_eq_some_iff.mp h
  exact ⟨x, hx, e.symm⟩
theorem cut_vI (ns : List Int) (lo hi : Option Int) : ∃ ms, cutV (vI ns) lo hi = vI ms ∧ ms.length ≤ ns.length := by
  refine ⟨(ns.drop (HT.sIx (vI ns).length 0 lo)).take (HT.sIx (vI ns).length (vI ns).length hi - HT.sIx (vI ns).length 0 lo), ?_, ?_⟩
  · unfold cutV vI
    rw [List.map_take, List.map_drop]
  · rw [List.length_take, List.length_drop]
    omega
theorem RpL.ints {cl : Nat → Addr} {F : Hp} : ∀ {cs : List Int}, RpL cl F (cs.map A.int) (vI cs)
  | [] => rfl
  | c :: cs => ⟨_, _, rfl, rfl, RpL.ints (cs := cs)⟩
section
variable {P : Program} {w : World} {K : PySem.W.Frag} {mg : Str → Option Value} {base : Heap} {cl : Nat → Addr} {Eh : XK}
/-- a def that has defaults: as Fun -/
structure FunV (K : PySem.W.Frag) (x qual : Str) (st : Stmt) (f : Addr) (fd : FuncData) : Prop where
  ex : ∃ (oc : Value) (od : Option Addr) (dV kV doc pm : Value) (an : Option Addr) (cdv ct : Value) (osl : Array (Option Value)),
    fd = PySem.W.fnOf x qual (defArgs st) (defBody st) (defScope st) dV kV doc pm an cdv ct ∧ K.lookup f = some ⟨oc, od, .func fd, osl⟩ ∧ PySem.W.codeIn K cdv qual = true
  kp : PySem.W.keepIn K (.ref f) = true
theorem FunV.ok {x qual : Str} {st : Stmt} {f : Addr} {fd : FuncData} {N ps : List Str} {k : Nat} {sp : Sp} (F : FunV K x qual st f fd) (S : FnScope N ps (defScope st)) (len : ∀ vs H Q E, sp vs H Q E → vs.length = ps.length)
    (hbody : ∀ (cdv : Value) (A : Around) (outer : List PySem.Env) (s : Shared) (H : Hp) (vs : List V) (Q : VK) (E : XK), Room k (A.deeper (PyProof.Rows.envOfC qual (defScope st) s.heap.objs.size f cdv)) → sp vs H Q E →
      ∃ t, PSs (cxOf CX0 P w K mg base N qual (defScope st) f cdv A outer s H E).nox (defBody st) t ∧ t { nx := fun _ H' => Q .non H', rt := Q } (L2.start N vs) H) : FnOk P w K mg base CX0 (k + 1) f fd ps sp := by
  obtain ⟨oc, od, dV, kV, doc, pm, an, cdv, ct, osl, rfl, lk, hcd⟩ := F.ex
  refine fn_of lk hcd S len fun A outer s H vs Q E hr hsp => ?_
  obtain ⟨t, h, q⟩ := hbody cdv A outer s H vs Q E hr hsp
  exact ⟨t, h.nox, q⟩
theorem FunV.okD {x qual : Str} {st : Stmt} {f : Addr} {fd : FuncData} {N ps : List Str} {k : Nat} (F : FunV K x qual st f fd) (S : FnScope N ps (defScope st)) (ra kp : List Nat) (m : Nat) (g : GS)
    (hN : N.length = ps.length + m) (hk : ((List.range ps.length).all fun i => ra.contains i || kp.contains i) = true)
    (body : ∀ (cdv : Value) (A : Around) (outer : List PySem.Env) (s : Shared) (H : Hp) (E : XK), Room k (A.deeper (PyProof.Rows.envOfC qual (defScope st) s.heap.objs.size f cdv)) →
      ∃ t, PSs (cxOf CX0 P w K mg base N qual (defScope st) f cdv A outer s H E).nox (defBody st) t ∧ SS cl kp E t g) : FnOk P w K mg base CX0 (k + 1) f fd ps (spD cl (fnD ra ps.length m g)) := by
  refine F.ok S (fun vs H Q E h => ?_) (fun cdv A outer s H vs Q E hr h => ?_)
  · obtain ⟨F, fp, os, res, os', I, e, _⟩ := h
    obtain ⟨l, _⟩ := fnD_inv e
    have := I.len
    rw [List.length_map] at this
    omega
  · obtain ⟨t, ht, hs⟩ := body cdv A outer s H E hr
    refine ⟨t, ht, body_ok hN (fun i hi hr => ?_) hs h⟩
    have := List.all_eq_true.mp hk i (List.mem_range.mpr hi)
    rcases Bool.or_eq_true_iff.mp this with z | z
    · exact (hr (by simpa using z)).elim
    · simpa using z
theorem law_core {N : List Str} (m : Nat) (g : GS)
    (hN : N.length = m + 2) (hg : ∀ cs : List Int, (∀ c ∈ cs, 0 ≤ c) → ∃ env', g (.un :: .fl (.lst [.lst (cs.map A.int), .int 0, .int 0, .int 0]) :: List.replicate m .un) = some (.rt (.fl (.fz (.bl true))), env'))
    {t : TS} {E : XK} (hs : SS cl [0] E t g) {vs : List V} {H : Hp} {Q : VK} {E0 E1 : XK} (h : spLaw K vs H Q E1) : (tSeq (tAsg (tCall (spBox K) [] E0 (tCons (tVar 0) tNil)) (gName 1)) t) { nx := fun _ H' => Q .non H', rt := Q } (L2.start N vs) H := by
  obtain ⟨a, ns, rfl, hS, hl, q⟩ := h
  have e0 : L2.start N [V.ref a] = some (.ref a) :: none :: List.replicate m none := by
    unfold L2.start
    rw [show N.length - [V.ref a].length = m + 1 by rw [hN]; rfl]
    rfl
  rw [e0]
  refine ⟨_, rfl, a, ns, rfl, hS, hl, fun H1 b c cs sm ncb hb hc pos => ?_⟩
  obtain ⟨env', e⟩ := hg cs pos
  have hF : ∀ p o, (fun p => if p = c then H1 c else none) p = some o → p = c ∧ H1 c = some o := fun p o z => by
    by_cases hpc : p = c
    · simp only [hpc, if_true] at z; exact ⟨hpc, z⟩
    · simp only [hpc, if_false] at z; cases z
  refine hs (τ := some (.ref a) :: some (.ref b) :: List.replicate m none) (F := fun p => if p = c then H1 c else none) (H := H1) (fp := fun i p => i = 1 ∧ p = b) (env' := env') ?_ e ?_
  · refine ⟨by simp, fun i o hi => ?_, fun i j p h1 h2 => h1.1.trans h2.1.symm, fun i p h => ?_, fun i p h => ?_, fun p o z => ?_, fun _ _ => rfl, rfl⟩
    · match i with
      | 0 => simp at hi; exact .inl hi.symm
      | 1 =>
        simp at hi
        subst hi
        refine .inr ⟨.ref b, rfl, b, _, rfl, ⟨rfl, rfl⟩, hb, _, _, rfl, ⟨c, vI cs, rfl, ?_, RpL.ints⟩, _, _, rfl, rfl, _, _, rfl, rfl, _, _, rfl, rfl, rfl⟩
        show (if c = c then H1 c else none) = _
        rw [if_pos rfl]; exact hc
      | i + 2 =>
        simp [List.getElem?_replicate] at hi
        exact .inl hi.2.symm
    · obtain ⟨_, rfl⟩ := h
      show (if p = c then H1 c else none) = none
      rw [if_neg (Ne.symm ncb)]
    · obtain ⟨_, rfl⟩ := h
      exact ⟨_, hb, rfl⟩
    · obtain ⟨rfl, z⟩ := hF p o z
      exact z
  · intro F' H' fp' σ' T v I' go rr nS
    cases (show v = V.bl true from rr)
    exact q H'
theorem binds_raw {n q : Str} {st : Stmt} {f : Addr} {fd : FuncData} {R : FuncData → Prop} (F : Fun K n q st f fd) (h : ∀ (kV doc pm : Value) (an : Option Addr) (cdv ct : Value), R (PySem.W.fnOf n q (defArgs st) (defBody st) (defScope st) .none kV doc pm an cdv ct)) : R fd := by
  obtain ⟨oc, od, kV, doc, pm, an, cdv, ct, osl, rfl, lk, hcd⟩ := F.ex
  exact h kV doc pm an cdv ct
end
end Dl
namespace Hd
open PySem PySem.Spec PyProof.Rows L2
/-! ### the defs -/
section
variable {K : PySem.W.Frag} {a : Addr} {n q : Str} {st : Stmt} {dvs : List V}
theorem fun_of (e : obsAt K a = some (n, q, defArgs st, .stmts (defBody st), defScope st, mainGlobals, builtinsNs)) (c : okAt K a q false [] = true) (k : PySem.W.keepIn K (.ref a) = true) : ∃ fd, Fun K n q st a fd := by
  obtain ⟨oc, od, osl, dV, kV, doc, pm, an, cdv, ct, lk, cd, d⟩ := fnx_dflt e c
  have k0 : dV = .none := by
    rcases d with ⟨_, z⟩ | ⟨z, _⟩
    · exact z
    · exact absurd rfl z
  subst k0
  exact ⟨_, fun_mk lk cd k⟩
end
/-! ### isinstance -/
section
variable {K : PySem.W.Frag} {C D : Addr} {b : Bool}
theorem kit_own (self : PySem.W.subIn K (.ref D) (.ref D) = some true) (h1 : (PySem.W.clsIn K C).isSome = true) (h2 : PySem.W.typeIn K (.ref C) = some (.type "type")) (h3 : PySem.W.subIn K (.ref D) (.ref C) = some b) : PySem.W.kitOne K (.ref D) (.ref C) = some b := by
  unfold PySem.W.kitOne
  by_cases e : D = C
  · subst e
    rw [self] at h3
    rw [if_pos (by simp), h3]
  · rw [if_neg (by simpa using e)]
    unfold PySem.W.kitCls
    simp [h1, h2, h3]
theorem kit_base {t : String} (h1 : (PySem.W.clsIn K C).isSome = true) (h2 : PySem.W.typeIn K (.ref C) = some (.type "type")) (h3 : PySem.W.subIn K (.type t) (.ref C) = some b) : PySem.W.kitOne K (.type t) (.ref C) = some b := by
  unfold PySem.W.kitOne
  rw [if_neg (by simp)]
  unfold PySem.W.kitCls
  simp [h1, h2, h3]
theorem kit_self : PySem.W.kitOne K (.ref C) (.ref C) = some true := by
  unfold PySem.W.kitOne
  rw [if_pos (by simp)]
theorem kitO_mk {cl : Nat → Addr} {c : Nat} {tab : List (Nat × Bool)} (h : ∀ p ∈ tab, C8.InsC K (cl p.1) ∧ PySem.W.kitOne K (.ref (cl p.1)) (.ref (cl c)) = some p.2)
    (hb : ∀ t ∈ ["NoneType", "bool", "int", "str", "list", "tuple"], PySem.W.kitOne K (.type t) (.ref (cl c)) = some false) : Dl.KitO K cl c tab := by
  refine ⟨fun c' b e => ?_, hb⟩
  have m : (c', b) ∈ tab := by
    induction tab with
    | nil => simp at e
    | cons p r ih =>
      obtain ⟨x, y⟩ := p
      rw [List.lookup_cons] at e
      by_cases q : (c' == x) = true
      · rw [q] at e
        have q' : c' = x := by simpa using q
        cases e
        rw [q']
        exact List.mem_cons_self
      · have q' : (c' == x) = false := by simpa using q
        rw [q'] at e
        exact List.mem_cons_of_mem _ (ih (fun p hp => h p (List.mem_cons_of_mem _ hp)) e)
  exact h _ m
end
end Hd
namespace Eb
open PySem PySem.Spec PyProof.Rows L2
/-! ### errors with one whole number -/
theorem str_le {n : Nat} (h : n ≤ 100000) : n ≤ sizeLine := Nat.le_trans h (by decide)
theorem int_le {i : Int} (h : i.natAbs.log2 < 1920) : (PySem.Str.ofString (toString i)).length ≤ 1921 := int_text_len_1921 h
/-- what an error's text can show -/
def Pr (v : V) : Prop := (∃ i : Int, v = .int i ∧ i.natAbs.log2 < 1920) ∨ ∃ y : Str, v = .str y ∧ y.length ≤ 1921
theorem Pr.int {i : Int} (h : i.natAbs < 2 ^ 1000) : Pr (.int i) := .inl ⟨i, rfl, by
  by_cases z : i.natAbs = 0
  · rw [z]; decide
  · exact Nat.lt_trans ((Nat.log2_lt z).mpr h) (by decide)⟩
/-- C's __init__: the error at a gets its own dict with the fields -/
def spEr (C : Addr) (flds : List Str) : Sp := fun vs H Q _ => ∃ (a : Addr) (xs : List V), vs = .ref a :: xs ∧ xs.length = flds.length ∧ (∀ v ∈ xs, Pr v) ∧ H a = some (exo a C none) ∧
  ∀ H2 dx, H dx = none → dx ≠ a → (∀ b, b ≠ a → b ≠ dx → H2 b = H b) → H2 a = some (exo a C (some dx)) → H2 dx = some (exd dx (flds.zip xs).reverse) → Q .non H2
/-- what the written part says of an error's class -/
structure Er (P : Program) (K : PySem.W.Frag) (mg : Str → Option Value) (x : Str) (flds : List Str) (C : Addr) : Prop where
  T : OexC K C
  gC : mg x = some (.ref C)
  init : ∃ fI fd, PySem.W.findIn K (.ref C) "__init__" = some (some (.ref fI)) ∧ PySem.W.typeIn K (.ref fI) = some (.type "function") ∧ Binds K fd ("self" :: flds) [] ∧ ∀ (w : World) (base : Heap), FnOk P w K mg base CX0 1 fI fd ("self" :: flds) (spEr C flds)
theorem made_eq {H H2 : Hp} {a d : Addr} {o : HO} (ha : H a = none) (h2 : ∀ b, b ≠ a → b ≠ d → H2 b = upd H a o b) (fs : List (Str × V)) : upd (del H2 a) d (.xd fs) = upd H d (.xd fs) := by
  funext b
  by_cases hb : b = d
  · rw [hb, upd_same, upd_same]
  · rw [upd_ne hb, upd_ne hb]
    by_cases hba : b = a
    · rw [hba, del_same, ha]
    · rw [del_ne hba, h2 b hba hb, upd_ne hba]
/-- C(..) is made -/
def tMkEr (C : Addr) (flds : List Str) (ta : TA) : L2.St → Hp → XK → Prop := fun σ H Q => ta σ H fun vs H1 => vs.length = flds.length ∧ (∀ v ∈ vs, Pr v) ∧ ∀ d, H1 d = none → Q (.ref C) (some d) (upd H1 d (.xd (flds.zip vs).reverse))
theorem pmk_er {X : Cx} {x : Str} {flds : List Str} {C : Addr} {e : Expr} {es : List Expr} {ta : TA} {p pos : Pos} (R : Er X.prog X.K X.mg x flds C) (hr : Room 2 X.A) (ha : PA X (e :: es) ta) (hfl : flds.length ≤ 1000) (hg : Gl X x)
    (hdb : (x == ("__debug__" : Str)) = false) (he : starEach (e :: es) X.env = (false, eval e X.env) :: starEach es X.env) (hpl : (backTo pos (starEach es X.env)).any (·.1) = false) :
    L2N.PMk X (.Call (.Name x p) (e :: es) [] pos) (tMkEr C flds ta) := by
  have ⟨fI, fd, iC, tI, hb, F⟩ := R.init
  have ⟨nm, q0, N, bs, bm, sn, sub, ab, col, dd, k0, k1, k2, k3, k5, hC, hbm⟩ := R.T.cls
  intro pins s σ H Q I h
  refine wpAny_Call_Name_kw (ld_glob I hg R.gC ?_ hdb)
  refine PySem.W.callWith_K (h₀ := X.base) I.ok.mod.kin R.T.kC (thn (ha.run pos pins s σ H _ I h) fun us s1 hh => ?_) he hpl
  have ⟨vs, H1, I1, r1, hl, hp, q⟩ := hh
  refine ⟨I1.kIn, ?_⟩
  change wpAny _ _ (call (.ref C) us) _ _ _
  obtain ⟨h1, g, dr, tk, os⟩ := s1
  -- the error's object e behind its args
  have big : h1.objs.size ≤ h1.objs.size + 1 := Nat.le_succ _
  generalize ee : h1.objs.size + 1 = e1 at big
  have none1 : H1 e1 = none := I1.hok.fresh big
  have keep : ∀ b o, h1.get? b = some o → ((h1.push (PySem.W.kdv_tup us)).push (PySem.HandSPX.excO C h1.objs.size)).get? b = some o := fun b o z => Heap.get?_push_of_some _ (Heap.get?_push_of_some _ z)
  have there : ((h1.push (PySem.W.kdv_tup us)).push (PySem.HandSPX.excO C h1.objs.size)).get? e1 = some (PySem.HandSPX.excO C h1.objs.size) := by rw [← ee]; heap_get
  have I2 : Inv X pins σ (upd H1 e1 (exo e1 C none)) ⟨(h1.push (PySem.W.kdv_tup us)).push (PySem.HandSPX.excO C h1.objs.size), g, dr, tk, os⟩ := I1.laid (t' := tk) keep big (exo_ok there)
  have few : us.length ≤ sizeLine := by
    have z := Paired.length r1
    rw [← z, sizeLine_eq]
    omega
  have want : spEr C flds (.ref e1 :: vs) (upd H1 e1 (exo e1 C none)) (fun v H2 => v = .non ∧ ∃ (d : Addr) (fs : List (Str × V)), H2 e1 = some (exo e1 C (some d)) ∧ H2 d = some (exd d fs) ∧ H1 d = none ∧ Q (.ref C) (some d) (upd (del H2 e1) d (.xd fs))) E0 :=
    ⟨e1, vs, rfl, hl, hp, upd_same, fun H2 dx hdx hne h2 ea ed => by
      rw [upd_ne hne] at hdx
      refine ⟨rfl, dx, _, ea, ed, hdx, ?_⟩
      rw [made_eq none1 h2]
      exact q dx hdx⟩
  have vals : Vals (V.ref e1 :: vs) (Value.ref e1 :: us) := .cons rfl r1
  have binds := hb ⟨(h1.push (PySem.W.kdv_tup us)).push (PySem.HandSPX.excO C h1.objs.size), g, dr, tk, os⟩ (Value.ref e1 :: us) I2.kIn (by rw [List.append_nil, ← vals.length, (F X.w X.base).len _ _ _ _ want])
  rw [List.append_nil] at binds
  have run := (F X.w X.base).run (X.A.under (.builtin "type.__call__" ⟨.ref C :: us, []⟩)) X.stack ⟨(h1.push (PySem.W.kdv_tup us)).push (PySem.HandSPX.excO C h1.objs.size), g, dr, tk, os⟩ _ ⟨Value.ref e1 :: us, []⟩ _ _ _ E0 (hr.make C us []) (I2.env0.make C us []) binds vals want
  refine wpAny_call (PySem.HandSPX.call_own PySem.F.excBase_ValueError (fun Y => PySem.HandSPX.refsVE_contains Y bm hbm) (I1.kIn _ _ hC) (PySem.W.looks_findIn I1.kIn iC) (fun self => PySem.W.bind_fn I1.kIn self tI) few ?_)
  rw [ee]
  refine codeAny_mono run fun r s' out => ?_
  match r, out with
  | .ok (.ret u), ⟨v, H2, o2, b2, u2, ok2, rv, ev, d, fs, ea, ed, n1, qq⟩ =>
    subst ev
    have ⟨t0, G, J, kG, ge, ho, na⟩ := mk_end0 (d2 := s'.drawn) (t2 := s'.toks) I1 big keep u2 ok2 o2 b2 ea ed n1
    exact ⟨rv, e1, _, _, _, _, .ref C, some d, rfl, J, kG, ge, ho, ⟨rfl, rfl, fun ws e => by cases e; rfl⟩, rfl, rfl, na, rfl, b2, raises_own R.T.exC R.T.tyC, qq⟩
def tRaiseEr (C : Addr) (flds : List Str) (W : WX) (ta : TA) : TS := fun _ σ H => tMkEr C flds ta σ H fun cls d H' => W cls d σ H'
theorem ps_raiseEr {X : Cx} {W : WX} {x : Str} {flds : List Str} {C : Addr} {e : Expr} {es : List Expr} {ta : TA} {p pos pos2 : Pos} (hc : X.calm = true) (R : Er X.prog X.K X.mg x flds C) (hr : Room 2 X.A) (tk : L2N.Takes X W) (ha : PA X (e :: es) ta) (hfl : flds.length ≤ 1000 := by decide) (hg : Gl X x := by rfl)
    (db : (x == ("__debug__" : Str)) = false := by decide) (he : starEach (e :: es) X.env = (false, eval e X.env) :: starEach es X.env := by rfl) (hpl : (backTo pos (starEach es X.env)).any (·.1) = false := by rfl) :
    PS X (.Raise (some (.Call (.Name x p) (e :: es) [] pos)) none pos2) (tRaiseEr C flds W ta) := L2N.ps_raise hc tk (pmk_er R hr ha hfl hg db he hpl)
/-! ### the texts -/
/-- what the written part says of an error's __init__ -/
structure ErT (P : Program) (K : PySem.W.Frag) (mg : Str → Option Value) (C : Addr) (qual : Str) (st : Stmt) (f : Addr) (fd : FuncData) : Prop where
  U : SupX.SupC P K mg C
  ex : ∃ (oc ccl cl : Value) (od cdd cld an : Option Addr) (osl ccs csl : Array (Option Value)) (cda cc : Addr) (kV doc pm ct : Value) (vs0 : Array Value) (file : Str) (tf : Tok),
    fd = PySem.W.ksFn "__init__" qual (defArgs st) (defBody st) (defScope st) .none kV doc pm an (.ref cda) ct cc ∧ K.lookup f = some ⟨oc, od, .func fd, osl⟩ ∧ PySem.W.codeIn K (.ref cda) qual = true ∧
      K.lookup cda = some ⟨ccl, cdd, .fields vs0, ccs⟩ ∧ vs0[2]? = some (.str file tf) ∧ ((P.main.file : Str) == file) = true ∧ K.lookup cc = some ⟨cl, cld, .cell (some (.ref C)), csl⟩
  iC : PySem.W.findIn K (.ref C) "__init__" = some (some (.ref f))
  tI : PySem.W.typeIn K (.ref f) = some (.type "function")
theorem cat_le {x y : Str} {m n k : Nat} (hx : x.length ≤ m) (hy : y.length ≤ n) (h : m + n ≤ k) : (x ++ y).length ≤ k := by
  rw [Str.length_append]
  omega
end Eb
/-! ## try with several clauses «except C as n», the caught error's context being None -/
namespace L2N
open PySem PySem.Spec PyProof.Rows L2
abbrev Clauses := List (Value × (Addr → Value → Option Addr → TS))
/-- behind a suite the name is gone -/
def endsGone (D : Ends) (i : Nat) : Ends := { nx := fun σ H => D.nx (σ.set i none) H, bk := fun σ H => D.bk (σ.set i none) H, ct := fun σ H => D.ct (σ.set i none) H, rt := D.rt }
/-- what is wished of an error that the clauses l look at -/
def wClauses (K : PySem.W.Frag) (i : Nat) (Wout : WX) (D : Ends) : Clauses → WX
  | [] => Wout
  | p :: r => fun cls d σ H => ∃ b, PySem.W.exmOne K cls p.1 = some b ∧ (if b = true then ∀ a, H a = none → p.2 a cls d (endsGone D i) (σ.set i (some (.ref a))) H else wClauses K i Wout D r cls d σ H)
/-- the clauses of the text, each with the reading of its suite -/
inductive Reads (X : Cx) (n : Str) : List ExceptHandler → Clauses → Prop where
  | nil : Reads X n [] []
  | cons {x : Str} {c : Value} {ts : Addr → Value → Option Addr → TS} {s0 : Stmt} {ss : List Stmt} {q q' : Pos} {hs : List ExceptHandler} {l : Clauses} (named : Names X x c)
      (suite : ∀ (a : Addr) (oe : Obj) (cls : Value) (d : Option Addr) (pn : List (Addr × Obj)), Zn cls d oe → (∃ vs, oe.data = .fields vs) → PSs (X.suite a ((a, oe) :: pn)) (s0 :: ss) (ts a cls d)) (more : Reads X n hs l) :
      Reads X n (.ExceptHandler (some (.Name x q)) (some n) (s0 :: ss) q' :: hs) ((c, ts) :: l)
/-- an error on the ground of X -/
structure Down (X : Cx) (pins : List (Addr × Obj)) (σ : L2.St) (H : Hp) (cls : Value) (d : Option Addr) (a : Addr) (B : Heap) (sI s : Shared) : Prop where
  inv : Inv X pins σ H sI
  back : ∀ b o, sI.heap.get? b = some o → b ∉ frs X.stack → B.get? b = some o
  up : sI.heap.UpToSlots s.heap
  fly : HandSPX.FlyingZ B (X.env :: X.outer) a (Zn cls d) s.heap
  new : H a = none
  os : s.os = sI.os
  bare : AllBare s.gens
section
variable {X : Cx} {pins : List (Addr × Obj)} {σ : L2.St} {H : Hp} {cls : Value} {d : Option Addr} {a : Addr} {B : Heap} {sI s : Shared}
theorem Down.now (z : Down X pins σ H cls d a B sI s) : Inv X pins σ H s := z.inv.landed z.back z.fly.1 z.up z.os z.bare
/-- its object stands outside of what is tracked, outside of the frames -/
theorem Down.kept (z : Down X pins σ H cls d a B sI s) (hf : X.env.frame = some X.env.locals) : ∃ (oe : Obj) (vs : Array Value), s.heap.get? a = some oe ∧ Zn cls d oe ∧ oe.data = .fields vs ∧ Inv (X.suite a ((a, oe) :: (X.pn ++ pins))) [] σ H s := by
  have ⟨oe, vs, h1, h2, h3⟩ := z.fly.there
  have out : a ∉ frs (X.env :: X.outer) := fun m => by
    have ⟨_, o, e, no⟩ := z.fly.2.2.1.mem m
    exact no vs ((Option.some.inj (h1.symm.trans e)) ▸ h3)
  have loc : X.env.locals ∈ frs (X.env :: X.outer) := List.mem_filterMap.mpr ⟨X.env, by simp, hf⟩
  have sub : ∀ b, b ∈ X.fs → b ∈ frs (X.env :: X.outer) := fun b m => by
    have ⟨e, m1, m2⟩ := List.mem_filterMap.mp m
    exact List.mem_filterMap.mpr ⟨e, by simp [m1], m2⟩
  exact ⟨oe, vs, h1, h2, h3, z.now.suite h1 h3 z.new (fun e => out (e ▸ loc)) (fun m => out (sub _ m))⟩
/-- no clause is left: on it goes -/
theorem Down.past {Wout : WX} {D : Ends} (z : Down X pins σ H cls d a B sI s) (hs : X.stack = X.env :: X.outer) (hf : X.env.frame = some X.env.locals) (tk : Takes X Wout) (w : Wout cls d σ H) :
    wpAny (model X.prog X.w) X.A (handleBy (.ref a) X.env []) (SP X pins D) X.xe s := by
  apply wpAny_handleBy_nil
  have ⟨_, _, _, oe, vs, T, _, _, h1, _, h3, h4, _⟩ := z.fly
  unfold PySem.passOn
  apply wpAny_bind
  refine wpAny_field h1 h3 h4 ?_
  have no : ¬ ((Value.ref T == Value.none) = true) := by simp
  rw [if_neg no]
  have goes : wpAny (model X.prog X.w) X.A (setFlight (.ref a) X.env.frame) (fun _ s4 => wpAny (model X.prog X.w) X.A (throw (.ref a) : Sem Flow) (SP X pins D) X.xe s4) X.xe s := by
    rw [hf]
    refine HandSPX.setFlight_upZ z.fly fun h4 held more => wpAny_throw (tk _ _ ?_)
    refine ⟨a, B, sI, pins, σ, H, cls, d, rfl, z.inv, z.back, z.up.trans more, .inr (.inr ?_), z.new, z.os, z.bare, w⟩
    rw [hs]
    exact held
  first
    | exact wpAny_bind goes
    | exact wpAny_bind (wpAny_pure (wpAny_bind goes))
/-- a clause's class is looked up -/
theorem named_at {x : Str} {c : Value} {q : Pos} {oe : Obj} {Q E : Value → Shared → Prop} (S : Inv (X.suite a ((a, oe) :: (X.pn ++ pins))) [] σ H s) (hn : Names X x c) (k : Q c s) : wpAny (model X.prog X.w) (X.A.mark (some (.ref a))) (eval (.Name x q) X.env) Q E s := by
  rcases hn with ⟨g, db, m | ⟨m, bt, nn⟩⟩
  · exact ld_glob (X := X.suite a ((a, oe) :: (X.pn ++ pins))) S g m k db
  · exact ld_blt (X := X.suite a ((a, oe) :: (X.pn ++ pins))) S g m bt k nn db
theorem Down.handle {n : Str} {i : Nat} {Wout : WX} {D : Ends} (hs : X.stack = X.env :: X.outer) (hf : X.env.frame = some X.env.locals) (hN : X.N.Nodup) (hi : X.N[i]? = some n) (hln : X.env.kindOf n = some .local) (tk : Takes X Wout) {hds : List ExceptHandler} {l : Clauses}
    (R : Reads X n hds l) : ∀ s, Down X pins σ H cls d a B sI s → wClauses X.K i Wout D l cls d σ H → wpAny (model X.prog X.w) X.A (handleBy (.ref a) X.env hds) (SP X pins D) X.xe s := by
  induction R with
  | nil => exact fun s z w => z.past hs hf tk w
  | @cons x c ts s0 ss q q' hs' l' named suite more ih =>
    intro s z ⟨b, yes, w⟩
    have ⟨oe, vs, h1, h2, h3, S⟩ := z.kept hf
    have ty : PySem.W.Looks (model X.prog X.w) s.heap (typeOf (.ref a)) cls := fun _ _ _ _ k q => wpAny_typeOf_ref (k _ _ h1) (h2.1 ▸ q)
    have lk := PySem.W.exm_one (M := model X.prog X.w) z.now.kIn ty yes
    refine wpAny_handleBy_cons (codeAny_handlers_test (named_at S named (lk.here ?_))) (fun e => by cases e)
    cases b with
    | false => exact ih s z w
    | true =>
      refine codeAny_handlers_suite_as (HandSPX.lands_againZ z.fly fun h4 fly up => ?_)
      have z4 : Down X pins σ H cls d a B sI { s with heap := h4 } := ⟨z.inv, z.back, z.up.trans up, fly, z.new, z.os, z.bare⟩
      have ⟨oe4, vs4, _, g2, g3, S4⟩ := z4.kept hf
      refine store_ok (X := X.suite a ((a, oe4) :: (X.pn ++ pins))) (v := .ref a) S4 hN hi (.inl hln) rfl (fun s5 S5 => ?_) (.inr hln)
      have run := (suite a oe4 cls d (X.pn ++ pins) g2 ⟨_, g3⟩).run [] s5 _ H _ S5 (w a z.new)
      refine wpAny_mono run (fun f s6 out => ?_) fun _ _ no => no.elim
      have gone : ∀ {σ6 : L2.St} {H6 : Hp} {Q : Shared → Prop}, Inv (X.suite a ((a, oe4) :: (X.pn ++ pins))) [] σ6 H6 s6 → (∀ s7, Inv X pins (σ6.set i none) H6 s7 → Q s7) → wpAny (model X.prog X.w) X.A (do bindName X.env n .none; unbindBehindTheSuite X.env n q') (fun _ s7 => Q s7) X.xe s6 :=
        fun S6 k => gone_ok (S6.unsuite z.inv.ok) hN hi hln k
      match f, out with
      | .next, ⟨_, _, S6, k⟩ => exact gone S6 fun s7 J => ⟨_, _, J, k⟩
      | .brk, ⟨_, _, S6, k⟩ => exact gone S6 fun s7 J => ⟨_, _, J, k⟩
      | .cont, ⟨_, _, S6, k⟩ => exact gone S6 fun s7 J => ⟨_, _, J, k⟩
      | .ret _, ⟨_, _, _, S6, r, k⟩ => exact gone S6 fun s7 J => ⟨_, _, _, J, r, k⟩
/-- the statement -/
theorem ps_try_clauses {n : Str} {i : Nat} {Wout : WX} {body : List Stmt} {h0 : ExceptHandler} {hds : List ExceptHandler} {l : Clauses} {pos : Pos} {tb : WX → TS} (hs : X.stack = X.env :: X.outer) (hf : X.env.frame = some X.env.locals) (hN : X.N.Nodup) (hi : X.N[i]? = some n) (hln : X.env.kindOf n = some .local)
    (tk : Takes X Wout) (hb : ∀ (W : WX) (pn : List (Addr × Obj)) (xe : Value → Shared → Prop), Takes (X.tr pn xe) W → PassesOwn (model X.prog X.w) X.A X.env xe → PSs (X.tr pn xe) body (tb W)) (R : Reads X n (h0 :: hds) l) :
    PS X (.Try body (h0 :: hds) [] [] pos) (fun D σ H => tb (wClauses X.K i Wout D l) D σ H) := by
  constructor
  intro pins s σ H D I h
  have fr : X.A.frames = some (X.env :: X.outer) := I.ok.frames.trans (by rw [hs])
  apply wpAny_Try_except
  have run := (hb (wClauses X.K i Wout D l) (X.pn ++ pins) (fun e s1 => wpAny (model X.prog X.w) X.A (noteFrame e X.env) (fun _ s2 => wpAny (model X.prog X.w) X.A (setFlight e none) (fun _ s3 => wpAny (model X.prog X.w) X.A (handleBy e X.env (h0 :: hds)) (SP X pins D) X.xe s3) X.xe s2) X.xe s1) (fun u s' c => by
    have ⟨a, B, sI, _, σ', H', cls, d, eu, J, nb, up, sky, na, os, ag, w⟩ := c
    subst eu
    rw [show (X.tr (X.pn ++ pins) _).stack = X.stack from rfl, hs] at sky
    refine Sky.land Zn.steady fr hf sky fun h3 fl more => ?_
    exact Down.handle hs hf hN hi hln tk R _ ⟨J.ofTry I.ok, nb, up.trans more, fl, na, os, ag⟩ w) PassesOwn.looking).run [] s σ H D (I.toTry _) h
  refine wpAny_mono run (fun f s1 out => ?_) fun _ _ z => z
  match f, out with
  | .next, ⟨_, _, J, k⟩ => exact wpAny_execs_nil ⟨_, _, J.ofTry I.ok, k⟩
  | .brk, ⟨_, _, J, k⟩ => exact ⟨_, _, J.ofTry I.ok, k⟩
  | .cont, ⟨_, _, J, k⟩ => exact ⟨_, _, J.ofTry I.ok, k⟩
  | .ret _, ⟨_, _, _, J, r, k⟩ => exact ⟨_, _, _, J.ofTry I.ok, r, k⟩
end
end L2N
/-! ## a list walked by a comprehension while an error is handled -/
namespace HotX2
open PySem PySem.Spec PyProof.Rows HotX
section
variable {prog : Program} {w : World} {A : Around} {E : Value → Shared → Prop} {s : Shared}
/-- the iterator at it is at its end: StopIteration is made (its context the handled error), and met -/
theorem list_ends {it l x1 : Addr} {i : Nat} {vals : Array Value} {Q : Option Value → Shared → Prop} (hot : HotAt A x1 s.heap) (ne : x1 ≠ it) (isIt : s.heap.IsListIter it l i) (isL : s.heap.IsList l vals) (past : vals[i]? = none)
    (k : ∀ h1, Heap.ExtBut it s.heap h1 → Q none { s with heap := h1 }) : wpAny (model prog w) A (pyNext (.ref it)) Q E s := by
  have ⟨hh, o1, ws, g1, e1, n1⟩ := hot
  have ty := isIt.typeIs
  have ⟨oi, gi, ci, di⟩ := isIt
  have ⟨ol, gl, _, nl, dl⟩ := isL
  have same1 : ∀ f, (s.heap.update it f).get? x1 = some o1 := fun f => (Heap.get?_update_ne _ _ _ _ ne).trans g1
  have sameB : ∀ f b o, b ≠ it → s.heap.get? b = some o → (s.heap.update it f).get? b = some o := fun f b o nb g => (Heap.get?_update_ne _ _ _ _ nb).trans g
  have noN : ¬ ((Value.ref l == Value.none) = true) := Bool.false_ne_true
  unfold pyNext
  apply wpAny_bind; apply wpAny_attempt
  refine wpAny_callSpecial?_slot (name := Str.ofString "__next__") ty slot_listiter_next (wpAny_call_entry slot_listiter_next ty entry_listiter_next ?_ (args_listiter_next _))
  change wpAny _ _ (field (.ref it) 0 >>= _) _ _ s
  refine wpAny_bind (wpAny_field (x := .ref l) gi di rfl ?_)
  change wpAny _ _ (ite ((Value.ref l == Value.none) = true) _ _) _ _ s
  rw [if_neg noN]
  change wpAny _ _ (field (.ref it) 1 >>= _) _ _ s
  refine wpAny_bind (wpAny_field (x := .int i 0) gi di rfl ?_)
  change wpAny _ _ (seqItems? (.ref l) >>= _) _ _ s
  refine wpAny_bind (wpAny_seqItems gl dl ?_)
  simp only [Int.toNat_natCast, past]
  refine wpAny_bind (wpAny_rule (wpAny_bind (wpAny_setField gi di (by simp) ?_)))
  change wpAny _ _ (newExc (.type "StopIteration") [] >>= _) _ _ _
  apply wpAny_bind
  simp only [newExc, newTuple]
  refine wpAny_bind (wpAny_newObj_type (wpAny_bind (m := firstArgMember _ _) (wpAny_of_eq (a := Value.none) (by first | rfl | (simp only [firstArgMember]; rfl)) (wpAny_newObj_type ?_ (by size_fits)))) (by size_fits))
  have up2 : ∀ {h1 : Heap} {b : Addr} {o x y : Obj}, h1.get? b = some o → ((h1.push x).push y).get? b = some o := fun e => Heap.get?_push_of_some _ (Heap.get?_push_of_some _ e)
  have lt2 : ∀ {h1 : Heap} {b : Addr} {o x : Obj}, h1.get? b = some o → b < (h1.push x).objs.size := fun e => Heap.lt_size (Heap.get?_push_of_some _ e)
  refine raiseNew_hot (x1 := x1) ⟨hh, o1, ws, up2 (same1 _), e1, n1⟩ (Nat.ne_of_lt (lt2 (same1 _))) (Heap.get?_push_size _ rfl) rfl (by first | (simp; done) | (simp; omega) | (simp only [Array.size_append]; simp; omega)) (wpAny_bind ?_)
  refine wpAny_isInstance (T := "StopIteration") (b := true) ⟨_, Heap.get?_update_self _ (Heap.get?_push_size _ rfl) rfl, rfl⟩ isSubtype_stop (wpAny_pure (k _ fun b o nb g => ?_))
  exact (Heap.get?_update_other _ _ (Nat.ne_of_gt (lt2 (sameB _ b o nb g)))).trans (up2 (sameB _ b o nb g))
end
end HotX2

namespace L2
open PySem PySem.Spec PyProof.Rows
section
variable {X : Cx} {pins : List (Addr × Obj)} {σ : St} {H : Hp} {s : Shared}
theorem fpOk_turned (I : Inv X pins σ H s) {it : Addr} (f : FpOk X pins H it) {h1 : Heap} (k : ∀ b o, b ≠ it → s.heap.get? b = some o → h1.get? b = some o) : Inv X pins σ H { s with heap := h1 } :=
  I.turned (t' := s.toks) (fun b o nb g => k b o nb g) f.1 f.2.1 f.2.2.2.1 f.2.2.2.2.1 f.2.2.2.2.2
theorem pe_lcH {elt tg iter : Expr} {ifs : List Expr} {scope : Scope} {own : List (Str × Nat)} {pos : Pos} {tl : TE} {g : TG} {tt : TT} {te : TE} (hot : L2H.HotC X) (hN : X.N.Nodup) (il : PE X iter tl) (ok : BlkOk X.N X.env.scope scope own)
    (hg : ∀ s H C cl fp, PG (X.blk s H scope (compEnvC scope cl C X.env) fp) tg g) (ht : ∀ s H C cl fp, PTs (X.blk s H scope (compEnvC scope cl C X.env) fp) ifs tt)
    (he : ∀ s H C cl fp, PE (X.blk s H scope (compEnvC scope cl C X.env) fp) elt te) (hs : ∀ x, foldedSetIterable iter X.env x = pure x := by intro _; rfl) :
    PE X (.ListComp elt [⟨tg, iter, ifs, 0⟩] scope pos) (tLc (iList X.K tl) g tt te (own.map (·.2))) := by
  constructor
  intro pins s σ H Q I h
  have ⟨p, ⟨hh, ws, pd, pc⟩, pm⟩ := hot
  have free : ∀ y ∈ scope.names, y.2 = .free → ∃ c, X.env.cells.lookup y.1 = some c := fun y m e => (ok.free y m e).elim (fun k => I.ok.has _ (.inl k)) fun k => I.ok.has _ (.inr k)
  rw [eval_ListComp]
  refine wpAny_comprehension_free rfl hs (closure_ok free) ok.kind (fun y m e => (ok.uniq y m).trans (e ▸ rfl)) (thn (il.run pins s σ H _ I h) fun xv s1 hx => ?_)
  have ⟨x, H1, I1, r1, a, ex, ⟨xs, hq⟩, q⟩ := hx
  subst ex
  cases r1
  have ⟨its, _, pl, _⟩ := I1.list hq
  refine wpAny_pyIter_list pl.isList (wpAny_newObj_type (newEnv_comp ?_) (show 0 ≤ sizeLine from Nat.zero_le _))
  -- the iterator, the new list
  have I2 := I1.kept (h' := s1.heap.push { cls := .type "list_iterator", data := .fields #[.ref a, .int 0 0] }) (t' := s1.toks) fun b o e => Heap.get?_push_of_some _ e
  have it0 : (s1.heap.push { cls := .type "list_iterator", data := .fields #[.ref a, .int 0 0] }).IsListIter s1.heap.objs.size a 0 := ⟨_, Heap.get?_push_size _ rfl, rfl, rfl⟩
  have new1 : H1 s1.heap.objs.size = none := I1.hok.fresh (Nat.le_refl _)
  generalize hk2 : s1.heap.push { cls := .type "list_iterator", data := .fields #[.ref a, .int 0 0] } = k2 at I2 it0 ⊢
  have lt2 : s1.heap.objs.size < k2.objs.size := by rw [← hk2, Heap.size_push]; exact Nat.lt_succ_self _
  have fp2 : FpOk X pins H1 s1.heap.objs.size := I1.fpOk (Nat.le_refl _) new1
  have I3 : Inv X pins σ (upd H1 k2.objs.size (.lst [])) { s1 with heap := k2.push { cls := .type "list", data := .seq ([] : List Value).toArray } } :=
    I2.laid (t' := s1.toks) (fun b o e => Heap.get?_push_of_some _ e) (Nat.le_refl _) ⟨Nat.zero_le _, [], 0, .nil, Heap.get?_push_size _ rfl⟩
  have ⟨W, ⟨m0, w0⟩, turn⟩ := q k2.objs.size (I2.hok.fresh (Nat.le_refl _))
  have fp3 : FpOk X pins (upd H1 k2.objs.size (.lst [])) s1.heap.objs.size := ⟨(upd_ne (Nat.ne_of_lt lt2)).trans fp2.1, fp2.2⟩
  have it3 : (k2.push { cls := .type "list", data := .seq ([] : List Value).toArray }).IsListIter s1.heap.objs.size a 0 := it0.at fun o e => Heap.get?_push_of_some _ e
  generalize hH3 : upd H1 k2.objs.size (.lst []) = H3 at I3 w0 fp3
  generalize hs3 : ({ s1 with heap := k2.push { cls := .type "list", data := .seq ([] : List Value).toArray } } : Shared) = s3 at I3
  generalize hit : s1.heap.objs.size = it at *
  generalize hD : k2.objs.size = D at *
  have e3 : s3.heap = k2.push { cls := .type "list", data := .seq ([] : List Value).toArray } := by rw [← hs3]
  have it3' : s3.heap.IsListIter it a 0 := by rw [e3]; exact it3
  have lt3 : it < s3.heap.objs.size := by rw [e3, Heap.size_push, hD]; exact Nat.lt_succ_of_lt lt2
  have I4 := block_start I3 ok hN (fp := [it]) fun b m => by
    rw [List.mem_singleton] at m
    subst m
    exact ⟨fp3, lt3⟩
  have P3 := I3.pin p (List.mem_append_left _ pm)
  have offst : p.1 ∉ frs X.stack := fun m => (List.mem_cons.mp (I3.stkSub p.1 m)).elim P3.2.2.1 P3.2.2.2.1
  have nep : p.1 ≠ it := fp3.2.2.2.2.2 p (List.mem_append_left _ pm)
  have pg := hg s3 H3 s3.heap.objs.size (cellsFrom (s3.heap.objs.size + 1) scope.names (cloFrom X.env.cells scope.names [])) [it]
  have pt := ht s3 H3 s3.heap.objs.size (cellsFrom (s3.heap.objs.size + 1) scope.names (cloFrom X.env.cells scope.names [])) [it]
  have pe := he s3 H3 s3.heap.objs.size (cellsFrom (s3.heap.objs.size + 1) scope.names (cloFrom X.env.cells scope.names [])) [it]
  change codeAny _ _ (.compStart (.ListComp elt [⟨tg, iter, ifs, 0⟩] scope pos) 0 (.ref it) (.ref D) (compEnvC scope (cellsFrom (s3.heap.objs.size + 1) scope.names (cloFrom X.env.cells scope.names [])) s3.heap.objs.size X.env)) (compPost (model X.prog X.w) X.A X.xe none _ (.ref D) s3.heap.objs.size) { s3 with heap := pushCells (s3.heap.push { cls := .type "dict", data := .dict #[] }) scope.names }
  generalize hce : compEnvC scope (cellsFrom (s3.heap.objs.size + 1) scope.names (cloFrom X.env.cells scope.names [])) s3.heap.objs.size X.env = ce at I4 pg pt pe ⊢
  have cL : ce.locals = s3.heap.objs.size := by rw [← hce]; rfl
  have it4 : (pushCells (s3.heap.push { cls := .type "dict", data := .dict #[] }) scope.names).IsListIter it a 0 := it3'.at fun o e => pushCells_keeps _ _ _ _ (Heap.get?_push_of_some _ e)
  have fpB : ∀ {σ' : L2.St} {H' : Hp} {s' : Shared}, Inv (X.blk s3 H3 scope ce [it]) [] σ' H' s' → H' it = none → FpOk (X.blk s3 H3 scope ce [it]) [] H' it := fun J n =>
    ⟨n, (J.ok.exf it (by simp)).1, J.ok.exfs it (by simp), .inl (by simp), fun x c e => (J.ok.exf it (by simp)).2 x c e, fun r m => absurd m (by simp)⟩
  have loop : codeAny (model X.prog X.w) X.A (.compLoop (.ListComp elt [⟨tg, iter, ifs, 0⟩] scope pos) 0 (.ref it) (.ref D) ce) (compPost (model X.prog X.w) X.A X.xe none (EP X pins σ Q) (.ref D) s3.heap.objs.size) { s3 with heap := pushCells (s3.heap.push { cls := .type "dict", data := .dict #[] }) scope.names } := ?_
  · exact codeAny_compStart_list loop (wpAny_pyIter_listiter it4 loop)
  refine compLoop_any (fun n s' => ∃ i H', Inv (X.blk s3 H3 scope ce [it]) [] (wipe σ (own.map (·.2))) H' s' ∧ s'.heap.IsListIter it a i ∧ H' it = none ∧ W i n H') ?_ m0 ⟨0, H3, I4, it4, fp3.1, w0⟩
  rintro n s5 ⟨i, H5, I5, st5, n5, w5⟩
  rcases turn i n H5 w5 with ⟨⟨xs5, hq5, past⟩, qq⟩ | ⟨⟨xs5, y, hq5, hy⟩, Nx, hNx, step⟩
  · have hp5 : s5.heap.get? p.1 = some p.2 := I5.base.keep p.1 p.2 P3.1 P3.2.1 offst (by simp [nep])
    have ⟨its5, rv5, pl5, _⟩ := I5.list hq5
    refine HotX2.list_ends ⟨hh, p.2, ws, hp5, pd, pc⟩ nep st5 pl5.isList (by have := rv5.length; simp; omega) fun h6 ext => ?_
    have I6 := fpOk_turned I5 (fpB I5 n5) ext
    have I7 : Inv X pins σ H5 { s5 with heap := h6 } := I3.call' (ch := [it]) I6.os I6.base I6.hok I6.bare fun b m => by
      rw [List.mem_singleton] at m
      subst m
      exact ⟨fp3.2.2.2.1, fp3.2.1, fp3.2.2.2.2.1, fp3.2.2.2.2.2⟩
    have nC : H5 s3.heap.objs.size = none := cL ▸ I6.free
    have ⟨m, hn, _⟩ := I6.loc
    have f := I3.fpOk (Nat.le_refl _) nC
    exact ⟨m, cL ▸ hn, fun h8 sb => ⟨.ref D, H5, fpOk_turned I7 f fun b o nb e => (sb.2 b nb).trans e, rfl, qq⟩⟩
  · have ⟨its5, rv5, pl5, _⟩ := I5.list hq5
    have ⟨u, hu, ru⟩ := rv5.get hy
    refine wpAny_pyNext_list_item st5 pl5.isList (x := u) (by simpa using hu) fun h6 st6 sb => ?_
    have I6 := fpOk_turned I5 (fpB I5 n5) fun b o nb e => (sb.2 b nb).trans e
    have ⟨oi, gi, ci, di⟩ := id st6
    refine go_of (s := { s5 with heap := h6 }) gi ci di (by decide) ?_
    have I7 : Inv (X.blk s3 H3 scope ce [it]) [(it, oi)] (wipe σ (own.map (·.2))) H5 { s5 with heap := h6 } := I6.pins_of fun r m => by
      rw [List.mem_singleton] at m
      subst m
      exact ⟨gi, n5, (I6.ok.exf it (by simp)).1, I6.ok.exfs it (by simp), fun v z => by rw [di] at z; cases z⟩
    refine thnF (pg.run _ _ _ H5 y u _ I7 ru (step y H5 ⟨rfl, fun ys hys => (I5.list_inj hys hq5) ▸ hy⟩)) fun _ s8 ⟨σ8, H8, I8, hw8, q8⟩ => ?_
    refine thnF (pt.run _ s8 σ8 H8 _ I8 q8) fun b s9 ⟨H9, I9, q9⟩ => ?_
    have done : ∀ {s' : Shared} {H' : Hp}, Inv (X.blk s3 H3 scope ce [it]) [(it, oi)] σ8 H' s' → Nx H' → ∃ m, m < n ∧ ∃ i H', Inv (X.blk s3 H3 scope ce [it]) [] (wipe σ (own.map (·.2))) H' s' ∧ s'.heap.IsListIter it a i ∧ H' it = none ∧ W i m H' := fun {s' H'} J nx => by
      have ⟨m', lt, w'⟩ := hNx H' nx
      have z := J.pin (it, oi) (by simp)
      refine ⟨m', lt, i + 1, H', (J.pins_of (pins' := []) fun r m => absurd m (by simp)).weak (by rw [← hw8, wipe_length]) (fun j v e => ?_), st6.at (fun o e => ?_), z.2.1, w'⟩
      · rw [← hw8] at e
        exact (wipe_some e).1
      · have e' : h6.get? it = some o := e
        rw [gi] at e'
        exact e' ▸ z.1
    cases b with
    | false => exact done I9 q9
    | true => exact thnF (pe.run _ s9 σ8 H9 _ I9 q9) fun z s10 ⟨yv, H10, I10, r10, acc, hD10, hz10, nx⟩ => app_ok (X := X.blk s3 H3 scope ce [it]) I10 hD10 hz10 r10 fun s11 I11 => done I11 nx
end
end L2
namespace L2
open PySem PySem.Spec PyProof.Rows
/-! ## a def that is asked about the error p, which is being handled -/
structure FnE (P : Program) (w : World) (K : PySem.W.Frag) (mg : Str → Option Value) (base : Heap) (k : Nat) (f : Addr) (fd : FuncData) (ps : List Str) (sp : Addr × Obj → Sp) : Prop where
  len : ∀ p vs H Q E, sp p vs H Q E → vs.length = ps.length
  run : ∀ (p : Addr × Obj) (A : Around) (outer : List Env) (z : Shared) (H : Hp) (args : Args) (us : List Value) (vs : List V) (Q : VK), L2H.RoomH k A → L2H.Hot1 A p → L2H.PinOk outer H z p → Env0 P w K mg base A outer z H → BindsTo z fd args (ps.zip us) → Vals vs us → sp p vs H Q E0 →
    codeAny (model P w) A (.call (.ref f) args) (CR CX0 outer P w H z Q E0) z
theorem fn_ofE {P : Program} {w : World} {K : PySem.W.Frag} {mg : Str → Option Value} {base : Heap} {k : Nat} {f : Addr} {nm qual : Str} {pars : Arguments} {body : List Stmt} {sc : Scope} {dV kV doc pm cdv ct oc : Value} {an od : Option Addr}
    {osl : Array (Option Value)} {N ps : List Str} {sp : Addr × Obj → Sp} (lk : K.lookup f = some ⟨oc, od, .func (PySem.W.fnOf nm qual pars body sc dV kV doc pm an cdv ct), osl⟩) (hcd : PySem.W.codeIn K cdv qual = true) (Sc : FnScope N ps sc)
    (len : ∀ p vs H Q E, sp p vs H Q E → vs.length = ps.length)
    (hbody : ∀ (p : Addr × Obj) (A : Around) (outer : List Env) (z : Shared) (H : Hp) (vs : List V) (Q : VK), L2H.Hot1 A p → L2H.RoomH k (A.deeper (envOfC qual sc z.heap.objs.size f cdv)) → sp p vs H Q E0 →
      ∃ t, PSs (L2H.cxH CX0 P w K mg base N qual sc f cdv A outer z H E0 p) body t ∧ t { nx := fun _ H' => Q .non H', rt := Q } (L2.start N vs) H) :
    FnE P w K mg base (k + 1) f (PySem.W.fnOf nm qual pars body sc dV kV doc pm an cdv ct) ps sp := by
  refine ⟨len, fun p A outer z H args us vs Q room hot pin e0 hb r want => ?_⟩
  have n := len _ _ _ _ _ want
  have up : ∀ b o, base.get? b = some o → z.heap.get? b = some o := fun b o e => (e0.bs b o e).1
  have KZ : K.In z.heap := e0.mod.kin.keeps up
  refine codeAny_call_function room.depth (KZ _ _ lk) rfl Sc.co Sc.gen rfl (PySem.W.codeRec_of KZ hcd) (hb _ _ _ _ ?_)
  refine wpAny_newFunctionEnv_cells Sc.kind (fun q m => ?_) fun env he z1 x => ?_
  · rcases Sc.par q.1 (List.of_mem_zip m).1 with c | c
    · exact .inl c
    · exact .inr ⟨c, PySem.W.cellsFrom_some _ _ _ (.inl c)⟩
  subst he
  refine ⟨(e0.mod.nolimit.keeps up).keeps x.toInCall.keep, codeAny_func ?_⟩
  have ⟨t, ht, hq⟩ := hbody p A outer z H vs Q hot (room.deeper _) want
  have I := L2H.inv_startH (CX := CX0) (P := P) (w := w) (qual := qual) (f := f) (cd := cdv) (E := E0) Sc pin e0 n r x
  refine wpAny_mono (ht.run [] z1 (L2.start N vs) H _ I hq) (fun fl z2 out => ?_) fun _ _ no => no
  match fl, out with
  | .ret _, ⟨v, _, H1, J, rv, q⟩ => exact ⟨v, H1, J.os, J.bare, J.base, J.hok, rv, q⟩
  | .next, ⟨_, H1, J, q⟩ => exact ⟨V.non, H1, J.os, J.bare, J.base, J.hok, rfl, q⟩
  | .brk, ⟨_, _, _, q⟩ => exact q.elim
  | .cont, ⟨_, _, _, q⟩ => exact q.elim
def tCallE (p : Addr × Obj) (sp : Addr × Obj → Sp) (t : TA) : TE := fun σ H Q => t σ H fun vs H1 => sp p vs H1 Q E0
section
variable {X : Cx} {k : Nat} {f : Addr} {fd : FuncData} {ps : List Str} {sp : Addr × Obj → Sp} {x : Str} {q pos : Pos} {e : Expr} {es : List Expr} {t : TA} {p : Addr × Obj}
theorem pe_callE (F : FnE X.prog X.w X.K X.mg X.base k f fd ps sp) (room : L2H.RoomH k X.A) (hot : L2H.Hot1 X.A p) (hp : p ∈ X.pn) (hg : Gl X x) (hm : X.mg x = some (.ref f)) (hk : PySem.W.keepIn X.K (.ref f) = true) (hb : Binds X.K fd ps [])
    (ha : PA X (e :: es) t) (db : (x == ("__debug__" : Str)) = false := by decide) (he : starEach (e :: es) X.env = (false, eval e X.env) :: starEach es X.env := by rfl) (hpl : (backTo pos (starEach es X.env)).any (·.1) = false := by rfl) :
    PE X (.Call (.Name x q) (e :: es) [] pos) (tCallE p sp t) := by
  constructor
  intro pins z σ H Q I h
  refine wpAny_Call_Name_kw (ld_glob I hg hm ?_ db)
  refine PySem.W.callWith_K (h₀ := X.base) I.ok.mod.kin hk (thn (ha.run pos pins z σ H _ I h) fun us z1 out => ?_) he hpl
  have ⟨vs, H1, I1, r, want⟩ := out
  refine ⟨I1.kIn, ?_⟩
  have b := hb z1 us I1.kIn (by rw [List.append_nil, ← r.length]; exact F.len _ _ _ _ _ want)
  rw [List.append_nil] at b
  have g := I1.pin p (List.mem_append_left _ hp)
  have pin : L2H.PinOk X.stack H1 z1 p := ⟨g.1, g.2.1, fun m => (List.mem_cons.mp (I1.stkSub p.1 m)).elim g.2.2.1 g.2.2.2.1, g.2.2.2.2⟩
  refine wpAny_call (codeAny_mono (F.run p X.A X.stack z1 H1 ⟨us, []⟩ us vs Q room hot pin I1.env0 b r want) fun r z2 out => ?_)
  match r, out with
  | .ok (.ret _), c => exact I1.after c
/-- isinstance(e, c), e the error p, which has a dict -/
def rIsEx (K : PySem.W.Frag) (p : Addr × Obj) : List V → Hp → VK → Prop := fun xs H Q => ∃ (D : Addr) (c : V) (cv : Value) (b : Bool) (dd : Addr) (fs : List (Str × V)), xs = [.ref p.1, c] ∧ (∀ u, RelV c u → u = cv) ∧ ExcC K D ∧ Zc (.ref D) (some dd) p.2 ∧ (∃ vs, p.2.data = .fields vs) ∧ H dd = some (.xd fs) ∧
  PySem.W.kitOne K (.ref D) cv = some b ∧ Q (.bl b) H
theorem call_isEx (hp : p ∈ X.pn) : CallR X (.builtin "isinstance") (rIsEx X.K p) := by
  intro pins z σ H xs us Q I r h
  have ⟨D, c, cv, b, dd, fs, ex, hcv, C, hz, ⟨vs, hv⟩, hdd, e, q⟩ := h
  subst ex
  match us, r with
  | [_, _], .cons rx (.cons rt .nil) =>
    cases rx
    cases hcv _ rt
    have ⟨mA, hns, _⟩ : ObjOk X.prog X.w H z.heap dd (.xd fs) := I.hok dd _ hdd
    have ⟨od, ho, _⟩ := lookIn_ns hns
    have here := (I.pin p (List.mem_append_left _ hp)).1
    have J : PySem.W.InstAt z.heap p.1 p.2 D (some od) := ⟨here, hz.1, by unfold PySem.W.notCls; rw [hv] <;> rfl, by rw [hz.2]; exact ho⟩
    have ⟨cdD, hcD, _⟩ := PySem.W.any_some C.hd
    refine PySem.W.kia_one (PySem.W.kitx_exc (gt := none) (by rw [hcD]; rfl) C.hg C.hk C.hs C.ha C.hn C.ht C.hm) I.kIn J e (fun z => nomatch z) fun tk => ?_
    exact ⟨.bl b, H, I.kept (t' := tk) fun _ _ z => z, rfl, q⟩
end
/-! ## defs that may raise -/
section
variable {P : Program} {w : World} {K : PySem.W.Frag} {mg : Str → Option Value} {base : Heap} {k : Nat} {f : Addr} {fd : FuncData} {ps : List Str} {sp sp' : Sp} {CX : CXT}
/-- where nothing is let out, any way of letting out will do -/
theorem FnOk.free (F : FnOk P w K mg base CX0 k f fd ps sp) : FnOk P w K mg base CX k f fd ps sp := by
  refine ⟨F.len, fun A outer s H args us vs Q E hr e0 hb hv h => codeAny_mono (F.run A outer s H args us vs Q E hr e0 hb hv h) fun r s' out => ?_⟩
  match r, out with
  | .ok (.ret _), c => exact c
theorem FnOk.or (F : FnOk P w K mg base CX k f fd ps sp) (G : FnOk P w K mg base CX k f fd ps sp') : FnOk P w K mg base CX k f fd ps (fun vs H Q E => sp vs H Q E ∨ sp' vs H Q E) :=
  ⟨fun vs H Q E h => h.elim (F.len vs H Q E) (G.len vs H Q E), fun A outer s H args us vs Q E hr e0 hb hv h => h.elim (F.run A outer s H args us vs Q E hr e0 hb hv) (G.run A outer s H args us vs Q E hr e0 hb hv)⟩
/-- the rule of a def that may raise -/
theorem Fun.okN {x qual : Str} {st : Stmt} {N : List Str} (F : Fun K x qual st f fd) (S : FnScope N ps (defScope st)) (len : ∀ vs H Q E, sp vs H Q E → vs.length = ps.length)
    (body : ∀ (cdv : Value) (A : Around) (outer : List Env) (s : Shared) (H : Hp) (vs : List V) (Q : VK) (E : XK), Room k (A.deeper (envOfC qual (defScope st) s.heap.objs.size f cdv)) → sp vs H Q E →
      ∃ t, PSs (cxOf (L2N.CX P w) P w K mg base N qual (defScope st) f cdv A outer s H E) (defBody st) t ∧ t { nx := fun _ H' => Q .non H', rt := Q } (L2.start N vs) H) : FnOk P w K mg base (L2N.CX P w) (k + 1) f fd ps sp := by
  have ⟨oc, od, kV, doc, pm, an, cdv, ct, osl, e, lk, hcd⟩ := F.ex
  subst e
  exact fn_of lk hcd S len fun A outer s H vs Q E hr h => body cdv A outer s H vs Q E hr h
end
section
variable {X : Cx} {W : WX}
theorem takesF : L2N.Takes X (fun _ _ _ _ => False) := fun _ _ x => by
  have ⟨_, _, _, _, _, _, _, _, _, _, _, _, _, _, _, _, z⟩ := x
  exact z.elim
/-- in a try's body: what the clauses wish for, at any slots -/
def eAll (n : Nat) (W : WX) : XK := fun cls d H => ∀ σ : L2.St, σ.length = n → W cls d σ H
theorem passTry (n : Nat) (tk : L2N.Takes X W) (hn : X.N.length = n := by rfl) : Passes (L2N.CX X.prog X.w) X (eAll n W) := fun _ σ _ _ e s' I c => tk e s' (L2N.XE.of_call I (fun _ _ _ h => h σ (I.len.trans hn)) c)
/-- in a def that may raise -/
theorem passUp {E : XK} (tk : L2N.Takes X (fun cls d _ H => E cls d H)) : Passes (L2N.CX X.prog X.w) X E := L2N.passes_call tk fun _ _ _ _ h => h
end
end L2
namespace Eb
open PySem PySem.Spec PyProof.Rows L2
/-! ## the program's errors, and the def that asks which one an error is -/
/-- where the classes stand -/
structure Errs where
  M : Addr
  c0 : Addr
  c1 : Addr
  c2 : Addr
  c3 : Addr
  c4 : Addr
  c5 : Addr
  c6 : Addr
  c7 : Addr
  c8 : Addr
  c9 : Addr
  c10 : Addr
  c11 : Addr
  c12 : Addr
  c13 : Addr
  c14 : Addr
  c15 : Addr
  c16 : Addr
  c17 : Addr
  c18 : Addr
structure ErrG (mg : Str → Option Value) (r : Errs) : Prop where
  m : mg "MurmurError" = some (.ref r.M)
  e0 : mg "BadSize" = some (.ref r.c0)
  e1 : mg "BadTable" = some (.ref r.c1)
  e2 : mg "UnknownWord" = some (.ref r.c2)
  e3 : mg "SizeMismatch" = some (.ref r.c3)
  e4 : mg "BadCount" = some (.ref r.c4)
  e5 : mg "BadPerson" = some (.ref r.c5)
  e6 : mg "BadLetter" = some (.ref r.c6)
  e7 : mg "UnknownPerson" = some (.ref r.c7)
  e8 : mg "TooMany" = some (.ref r.c8)
  e9 : mg "BadPattern" = some (.ref r.c9)
  e10 : mg "SameWord" = some (.ref r.c10)
  e11 : mg "UnknownClue" = some (.ref r.c11)
  e12 : mg "BadPlace" = some (.ref r.c12)
  e13 : mg "TooLong" = some (.ref r.c13)
  e14 : mg "Melted" = some (.ref r.c14)
  e15 : mg "NothingToUndo" = some (.ref r.c15)
  e16 : mg "NothingToRedo" = some (.ref r.c16)
  e17 : mg "Refused" = some (.ref r.c17)
  e18 : mg "BadLine" = some (.ref r.c18)
  v : mg "ValueError" = none
  i : mg "isinstance" = none
  l : mg "len" = none
/-- the errors of the class D are of one class of the program alone -/
structure KitsG (K : PySem.W.Frag) (r : Errs) (D : Addr) : Prop where
  x : ExcC K D
  m : PySem.W.kitOne K (.ref D) (.ref r.M) = some true
  v : PySem.W.kitOne K (.ref D) (.type "ValueError") = some true
  k : ∃ b0 b1 b2 b3 b4 b5 b6 b7 b8 b9 b10 b11 b12 b13 b14 b15 b16 b17 b18 : Bool, PySem.W.kitOne K (.ref D) (.ref r.c0) = some b0 ∧ PySem.W.kitOne K (.ref D) (.ref r.c1) = some b1 ∧ PySem.W.kitOne K (.ref D) (.ref r.c2) = some b2 ∧ PySem.W.kitOne K (.ref D) (.ref r.c3) = some b3 ∧ PySem.W.kitOne K (.ref D) (.ref r.c4) = some b4 ∧ PySem.W.kitOne K (.ref D) (.ref r.c5) = some b5 ∧ PySem.W.kitOne K (.ref D) (.ref r.c6) = some b6 ∧ PySem.W.kitOne K (.ref D) (.ref r.c7) = some b7 ∧ PySem.W.kitOne K (.ref D) (.ref r.c8) = some b8 ∧ PySem.W.kitOne K (.ref D) (.ref r.c9) = some b9 ∧ PySem.W.kitOne K (.ref D) (.ref r.c10) = some b10 ∧ PySem.W.kitOne K (.ref D) (.ref r.c11) = some b11 ∧ PySem.W.kitOne K (.ref D) (.ref r.c12) = some b12 ∧ PySem.W.kitOne K (.ref D) (.ref r.c13) = some b13 ∧ PySem.W.kitOne K (.ref D) (.ref r.c14) = some b14 ∧ PySem.W.kitOne K (.ref D) (.ref r.c15) = some b15 ∧ PySem.W.kitOne K (.ref D) (.ref r.c16) = some b16 ∧ PySem.W.kitOne K (.ref D) (.ref r.c17) = some b17 ∧ PySem.W.kitOne K (.ref D) (.ref r.c18) = some b18 ∧ ([b0, b1, b2, b3, b4, b5, b6, b7, b8, b9, b10, b11, b12, b13, b14, b15, b16, b17, b18].filter id).length = 1
def spSingle (K : PySem.W.Frag) (r : Errs) : Addr × Obj → Sp := fun p vs H Q _ => ∃ (D dd : Addr) (fs : List (Str × V)), vs = [.ref p.1] ∧ KitsG K r D ∧ Zc (.ref D) (some dd) p.2 ∧ (∃ vs, p.2.data = .fields vs) ∧ H dd = some (.xd fs) ∧ ∀ H', Same H H' → Q (.bl true) H'
theorem take_more {α : Type} : ∀ {l : List α} {i : Nat} {x : α}, l[i]? = some x → l.take (i + 1) = l.take i ++ [x]
  | [], i, x, h => by simp at h
  | a :: l, 0, x, h => by
    have e : a = x := Option.some.inj h
    subst e
    rfl
  | a :: l, i + 1, x, h => by
    have ih := take_more (l := l) (i := i) (x := x) h
    show a :: l.take (i + 1) = a :: l.take i ++ [x]
    rw [ih]
    rfl
theorem bl_at {bs : List Bool} {i : Nat} {y : V} (h : (bs.map V.bl)[i]? = some y) : ∃ b, bs[i]? = some b ∧ y = .bl b := by
  rw [List.getElem?_map] at h
  cases e : bs[i]? with
  | none => rw [e] at h; cases h
  | some b => rw [e] at h; exact ⟨b, rfl, (Option.some.inj h).symm⟩
theorem ones_more {bs : List Bool} {i : Nat} {b : Bool} (h : bs[i]? = some b) : List.replicate ((bs.take (i + 1)).filter id).length (V.int 1) = List.replicate ((bs.take i).filter id).length (V.int 1) ++ (if b = true then [V.int 1] else []) := by
  rw [take_more h, List.filter_append]
  cases b with
  | false => simp
  | true => simp [List.replicate_succ']
end Eb
namespace Eb
open PySem PySem.Spec PyProof.Rows L2
/-- what the written part says of an error's class, for an except clause and for its attributes -/
structure ErX (P : Program) (K : PySem.W.Frag) (mg : Str → Option Value) (r : Errs) (x : Str) (flds : List Str) (C : Addr) : Prop where
  er : Er P K mg x flds C
  kit : KitsG K r C
  no : ∀ n ∈ flds, PySem.W.findIn K (.ref C) n = some none
theorem ErX.xf {P : Program} {K : PySem.W.Frag} {mg : Str → Option Value} {r : Errs} {x : Str} {flds : List Str} {C : Addr} (e : ErX P K mg r x flds C) : XfC K C := ⟨e.kit.x.hg, e.kit.x.hk, e.kit.x.hs, e.kit.x.hd⟩
/-- the suite asks which error it holds -/
def tSing (K : PySem.W.Frag) (r : Errs) (a : Addr) (cls : Value) (d : Option Addr) (i : Nat) : TE := fun σ H Q => σ[i]? = some (some (V.ref a)) ∧ ∃ (D dd : Addr) (fs : List (Str × V)), cls = .ref D ∧ d = some dd ∧ KitsG K r D ∧ H dd = some (.xd fs) ∧ ∀ H', Same H H' → Q (.bl true) H'
section
variable {X : Cx} {r : Errs} {a f : Addr} {oe : Obj} {cls : Value} {d : Option Addr} {pn : List (Addr × Obj)} {fd : FuncData} {q q2 q3 : Pos} {x : Str} {k : Nat}
theorem pe_single (i : Nat) (F : FnE X.prog X.w X.K X.mg X.base 1 f fd ["_law_e"] (spSingle X.K r)) (hr : Room 1 X.A) (hz : L2N.Zn cls d oe) (hf : ∃ vs, oe.data = .fields vs) (hm : X.mg "_law_single" = some (.ref f)) (hk : PySem.W.keepIn X.K (.ref f) = true) (hb : Binds X.K fd ["_law_e"] [])
    (hg : Gl (X.suite a ((a, oe) :: pn)) "_law_single" := by rfl) (hN : X.N[i]? = some x := by rfl) (hv : Vis X.env.scope x := by first | exact Or.inl rfl | exact Or.inr (Or.inl rfl)) (n1 : (x == ("__debug__" : Str)) = false := by decide) (n2 : (x == ("__classdict__" : Str)) = false := by decide)
    (he : starEach [.Name x q2] X.env = (false, eval (.Name x q2) X.env) :: starEach [] X.env := by rfl) (hpl : (backTo q3 (starEach [] X.env)).any (·.1) = false := by rfl) :
    PE (X.suite a ((a, oe) :: pn)) (.Call (.Name "_law_single" q) [.Name x q2] [] q3) (tSing X.K r a cls d i) := by
  have ⟨vs, ev⟩ := hf
  have hot : L2H.Hot1 (X.suite a ((a, oe) :: pn)).A (a, oe) := ⟨rfl, vs, ev, hz.2.2 vs ev⟩
  have room : L2H.RoomH 1 (X.suite a ((a, oe) :: pn)).A := ⟨hr.dp, hr.un⟩
  have R := pe_callE (X := X.suite a ((a, oe) :: pn)) (pos := q3) (q := q) F room hot List.mem_cons_self hg hm hk hb (pa_cons (e := .Name x q2) (es := []) (pe_var (X := X.suite a ((a, oe) :: pn)) (i := i) hN hv n1 n2) pa_nil) (by decide) he hpl
  refine ⟨fun pins s σ H Q I h => R.run pins s σ H Q I ?_⟩
  have ⟨h1, D, dd, fs, ec, ed, kg, hdd, h2⟩ := h
  refine ⟨_, h1, D, dd, fs, rfl, kg, ?_, hf, hdd, h2⟩
  rw [← ec, ← ed]
  exact hz.zc
end
end Eb
/-! what the top has written of errors -/
namespace Hd
open PySem PySem.Spec PyProof.Rows L2 Eb
theorem ec_ok {K : PySem.W.Frag} {C : Addr} (h : ecB K C = true) : ∃ nm q N bs bm sn sub ab col dd k0 k1 k2 k3 k5, K.lookup C = some (excClassObj nm q C N bs bm true sn sub ab col dd k0 k1 k2 k3 k5 "ValueError.__new__") ∧ PySem.HandSPX.refsVE bm = true := by
  unfold ecB at h
  split at h
  · rename_i c dd nm bs C' bm N q hd sn sub ab col del k0 k1 k2 k3 nw k5 e
    obtain ⟨h1, h⟩ := He.ba h
    obtain ⟨h2, h⟩ := He.ba h
    obtain ⟨h3, h⟩ := He.ba h
    obtain ⟨h4, h⟩ := He.ba h
    obtain ⟨h5, h6⟩ := He.ba h
    have e1 := of_decide_eq_true h1
    have e2 := of_decide_eq_true h2
    have e6 := of_decide_eq_true h6
    subst e1 e2 e6
    cases hd with
    | false => cases h4
    | true =>
      cases del with
      | true => cases h5
      | false => exact ⟨nm, q, N, bs, bm, sn, sub, ab, col, dd, k0, k1, k2, k3, k5, e, h3⟩
  · cases h
section
variable {K : PySem.W.Frag} {C D : Addr} {b : Bool}
theorem kitV_ty (h : PySem.W.subIn K (.ref D) (.type "ValueError") = some true) : PySem.W.kitOne K (.ref D) (.type "ValueError") = some true := by
  unfold PySem.W.kitOne
  rw [if_neg (by simp)]
  show (if PySem.W.kitMeta "ValueError" = true then PySem.W.subIn K (.ref D) (.type "ValueError") else none) = some true
  rw [if_pos (by decide +kernel)]
  exact h
theorem oex_mk {nm q : Str} {N : Addr} {bs bm : List Value} {sn : List Str} {sub : List Value} {ab : Bool} {col : Option Bool} {dd : Option Addr} {k0 k1 k2 k3 k5 : Option Value} (l : K.lookup C = some (excClassObj nm q C N bs bm true sn sub ab col dd k0 k1 k2 k3 k5 "ValueError.__new__")) (r : PySem.HandSPX.refsVE bm = true)
    (sa : PySem.W.findIn K (.ref C) "__setattr__" = some (some (.builtin "object.__setattr__"))) (ex : PySem.W.subIn K (.ref C) (.type "BaseException") = some true) (ty : PySem.W.typeIn K (.ref C) = some (.type "type")) (kC : PySem.W.keepIn K (.ref C) = true) : OexC K C :=
  ⟨⟨nm, q, N, bs, bm, sn, sub, ab, col, dd, k0, k1, k2, k3, k5, l, r⟩, sa, ex, ty, kC⟩
end
section
variable {P : Program} {K : PySem.W.Frag} {mg : Str → Option Value} {C f cda cc : Addr} {qual : Str} {st : Stmt} {oc ccl cl kV doc pm ct : Value} {od cdd cld an : Option Addr} {osl ccs csl : Array (Option Value)} {vs0 : Array Value} {file : Str} {tf : Tok}
theorem ert_mk (T : OexC K C) (self : PySem.W.mroIn K C (.ref C) = some true) (noS : mg "super" = none) (top : (P.main.scope.names.lookup ("super" : Str)).isSome = false) (sta : PySem.W.nsIn K cStatics "thirdparty.any" = some none)
    (al : PySem.W.ks_superIn K C C "__init__" = some (some (.builtin "ValueError.__init__"))) (vE : PySem.W.subIn K (.ref C) (.type "ValueError") = some true)
    (lk : K.lookup f = some ⟨oc, od, .func (PySem.W.ksFn "__init__" qual (defArgs st) (defBody st) (defScope st) .none kV doc pm an (.ref cda) ct cc), osl⟩) (cd : PySem.W.codeIn K (.ref cda) qual = true) (lc : K.lookup cda = some ⟨ccl, cdd, .fields vs0, ccs⟩)
    (hv : vs0[2]? = some (.str file tf)) (hf : ((P.main.file : Str) == file) = true) (cell : K.lookup cc = some ⟨cl, cld, .cell (some (.ref C)), csl⟩) (iC : PySem.W.findIn K (.ref C) "__init__" = some (some (.ref f))) (tI : PySem.W.typeIn K (.ref f) = some (.type "function")) :
    ErT P K mg C qual st f (PySem.W.ksFn "__init__" qual (defArgs st) (defBody st) (defScope st) .none kV doc pm an (.ref cda) ct cc) :=
  ⟨⟨T, self, noS, top, sta, al, vE⟩, ⟨oc, ccl, cl, od, cdd, cld, an, osl, ccs, csl, cda, cc, kV, doc, pm, ct, vs0, file, tf, rfl, lk, cd, lc, hv, hf, cell⟩, iC, tI⟩
end
end Hd
namespace Dl
open PySem PySem.Spec L2
/-! ## what lets errors out -/
abbrev GB := Env → Option (Ev × Env)
abbrev BF := List O → Option (Ev × List O)
/-- what a place wishes of an error that is let out there -/
def Lets (cl : Nat → Addr) (kp : List Nat) (Eh : XK) (τ : L2.St) (F H : Hp) (U0 : Addr → Prop) (env' : Env) (σ : L2.St) (e : Ev) : Prop :=
  ∀ F' H' fp' S cls d, Rs cl kp τ F' H' fp' env' σ → Go F H U0 F' H' (fun p => U fp' p ∨ S p) → ErrAt cl F' H' S e cls d → (∀ p, S p → F' p = none ∧ Nt H' p ∧ ¬ U fp' p) → Eh cls d H'
/-- a call that lets an error out -/
def spB (cl : Nat → Addr) (b : BF) : Sp := fun vs H _ E => ∃ F fp os e os', Rs cl [] (vs.map some) F H fp os (vs.map some) ∧ b os = some (e, os') ∧ Lets cl [] E (vs.map some) F H (U fp) os' (vs.map some) e
def spX (cl : Nat → Addr) (f : GF) (b : BF) : Sp := fun vs H Q E => spD cl f vs H Q E ∨ spB cl b vs H Q E
def fnB (ra : List Nat) (n m : Nat) (body : GS) : BF := fun os =>
  if os.length = n ∧ okRa ra os = true then (body (os ++ List.replicate m .un)).bind fun p => match p.1 with
    | .er e => some (e, finO ra 0 os p.2)
    | _ => none
  else none
def BE (cl : Nat → Addr) (kp : List Nat) (Eh : XK) (t : TE) (b : GB) : Prop :=
  ∀ ⦃τ : L2.St⦄ ⦃F H : Hp⦄ ⦃fp : Nat → Addr → Prop⦄ ⦃env : Env⦄ ⦃σ : L2.St⦄ ⦃Q : VK⦄ ⦃e : Ev⦄ ⦃env' : Env⦄, Rs cl kp τ F H fp env σ → b env = some (e, env') → Lets cl kp Eh τ F H (U fp) env' σ e → t σ H Q
def BS (cl : Nat → Addr) (kp : List Nat) (Eh : XK) (t : TS) (b : GB) : Prop :=
  ∀ ⦃τ : L2.St⦄ ⦃F H : Hp⦄ ⦃fp : Nat → Addr → Prop⦄ ⦃env : Env⦄ ⦃σ : L2.St⦄ ⦃D : Ends⦄ ⦃e : Ev⦄ ⦃env' : Env⦄, Rs cl kp τ F H fp env σ → b env = some (e, env') → Lets cl kp Eh τ F H (U fp) env' σ e → t D σ H
section
variable {cl : Nat → Addr} {kp : List Nat} {τ σ : L2.St} {F F' H H' : Hp} {fp : Nat → Addr → Prop} {env : Env} {S : Addr → Prop} {K : PySem.W.Frag} {Eh : XK}
theorem Lets.go {U0 U1 : Addr → Prop} {F1 H1 : Hp} {env' : Env} {e : Ev} (a : Go F H U0 F1 H1 U1) (h : Lets cl kp Eh τ F H U0 env' σ e) : Lets cl kp Eh τ F1 H1 U1 env' σ e :=
  fun F' H' fp' S cls d I go => h F' H' fp' S cls d I (a.trans go)
/-! ### calls -/
def callB (b : BF) (rs : List R) (env : Env) : Option (Ev × Env) := if (plIdx rs).Nodup then (argOs env rs).bind fun os => (b os).map fun p => (p.1, backO env rs p.2) else none
theorem callB_ok {b : BF} {rs : List R} {vs : List V} {e : Ev} {env' : Env} {Q : VK} (I : Rs cl kp τ F H fp env σ) (rr : RRs cl F σ rs vs) (h : callB b rs env = some (e, env')) (k : Lets cl kp Eh τ F H (U fp) env' σ e) : spB cl b vs H Q Eh := by
  unfold callB at h
  split at h
  case isFalse => cases h
  rename_i n
  obtain ⟨os, ha, h⟩ := Option.bind_eq_some_iff.mp h
  obtain ⟨⟨e2, os'⟩, hf, z⟩ := Option.map_eq_some_iff.mp h
  cases z
  refine ⟨F, fpArg fp rs, os, e2, os', I.args rr ha n, hf, fun F' H' fp' S cls d I' go ea nS => ?_⟩
  obtain ⟨fp2, I2, go2, n2⟩ := I.called rr ha n I' go nS
  exact k F' H' fp2 S cls d I2 go2 ea n2
def bCall (b : BF) (ds : List A) (g : Env → Option (List R × Env)) : GB := fun env => (g env).bind fun p => callB b (p.1 ++ ds.map .fz) p.2
theorem be_call {f : GF} {b : BF} {ds : List A} {dvs : List V} {t : TA} {g : Env → Option (List R × Env)} (hd : scV ds = some dvs) (h : SR cl kp t g) : BE cl kp Eh (tCall (spX cl f b) dvs Eh t) (bCall b ds g) := by
  intro τ F H fp env σ Q e env' I he k
  obtain ⟨⟨rs, e1⟩, h1, he⟩ := Option.bind_eq_some_iff.mp he
  exact h I h1 fun F1 H1 fp1 vs I1 go1 rr => .inr (callB_ok I1 (rr.app hd) he (k.go go1))
theorem se_callX {f : GF} {b : BF} {ds : List A} {dvs : List V} {E : XK} {t : TA} {g : Env → Option (List R × Env)} (hd : scV ds = some dvs) (h : SR cl kp t g) : SE cl kp false (tCall (spX cl f b) dvs E t) (gCall f ds g) := by
  intro τ F H fp env σ Q r env' I e k
  obtain ⟨⟨rs, e1⟩, h1, e⟩ := Option.bind_eq_some_iff.mp e
  exact h I h1 fun F1 H1 fp1 vs I1 go1 rr => .inl (call_ok I1 (rr.app hd) e fun F' H' fp' S v I' go' r' => k F' H' fp' S v I' (go1.trans go') r' fun z => nomatch z)
def bMeth (c : Nat) (m : Str) (b : BF) (ds : List A) (go : G) (g : Env → Option (List R × Env)) : GB := fun env => (go env).bind fun p => if p.1.isPf || p.1.tmp.isOw then none else
  (p.1.tmp.vw p.2).bind fun a => if insOf c m a then (g p.2).bind fun q => callB b (p.1.tmp :: (q.1 ++ ds.map .fz)) q.2 else none
/-- o.m(..): what the call gives or lets out -/
theorem meth_core {c : Nat} {m : Str} {ds : List A} {dvs : List V} {pu : Bool} {to : TE} {t : TA} {gt : G} {g : Env → Option (List R × Env)} {sp : Sp} {Q : VK} {r0 : R} {e1 : Env} {a : A} {rs : List R} {e2 : Env} (hd : scV ds = some dvs) (ho : SE cl kp pu to gt) (h : SR cl kp t g) (I : Rs cl kp τ F H fp env σ)
    (h1 : gt env = some (r0, e1)) (cc : ¬ (r0.isPf || r0.tmp.isOw) = true) (ha : r0.tmp.vw e1 = some a) (hi : insOf c m a = true) (h2 : g e1 = some (rs, e2))
    (k : ∀ F2 H2 fp2 vs, Rs cl kp τ F2 H2 fp2 e2 σ → Go F H (U fp) F2 H2 (U fp2) → RRs cl F2 σ (r0.tmp :: (rs ++ ds.map .fz)) vs → sp vs H2 Q Eh) : tMeth (cl c) m sp dvs Eh to t σ H Q := by
  have g1 : gT gt env = some (r0.tmp, e1) := by unfold gT; rw [h1]; rfl
  refine ho.tmp I g1 fun F1 H1 fp1 S v I1 go1 rr1 _ => ?_
  have rv := rr1.rv I1 ha
  cases a with
  | ins c' ns xs =>
    obtain ⟨hc, hm⟩ := and_t (show (c' == c && !ns.contains m) = true from hi)
    have hc : c' = c := by simpa using hc
    subst hc
    obtain ⟨p, dx, vs0, rfl, hp, _, _, _⟩ := rv
    refine ⟨p, dx, _, rfl, hp, lookup_none (by simpa using hm), ?_⟩
    refine h I1 h2 fun F2 H2 fp2 vs I2 go2 rr => ?_
    refine k F2 H2 fp2 _ I2 ((go1.mono fun p z => .inl z).trans go2) ?_
    have cc : (r0.isPf || r0.tmp.isOw) = false := by simpa using cc
    obtain ⟨c1, c2⟩ := Bool.or_eq_false_iff.mp cc
    have c3 : r0.tmp.isPf = false := by
      cases r0 with
      | ow o => show (match o.vw with | some a => R.fz a | none => .ow o).isPf = false; cases o.vw <;> rfl
      | pf i f => cases c1
      | _ => rfl
    generalize r0.tmp = r' at rr1 c2 c3
    cases r' with
    | fz a => exact ⟨_, _, rfl, Rp.same go2.sF rr1, rr.app hd⟩
    | pl i => exact ⟨_, _, rfl, rr1, rr.app hd⟩
    | pf i f => cases c3
    | ow o => cases c2
  | _ => cases hi
theorem be_meth {c : Nat} {m : Str} {f : GF} {b : BF} {ds : List A} {dvs : List V} {pu : Bool} {to : TE} {t : TA} {gt : G} {g : Env → Option (List R × Env)} (hd : scV ds = some dvs) (ho : SE cl kp pu to gt) (h : SR cl kp t g) : BE cl kp Eh (tMeth (cl c) m (spX cl f b) dvs Eh to t) (bMeth c m b ds gt g) := by
  intro τ F H fp env σ Q e env' I he k
  obtain ⟨⟨r0, e1⟩, h1, he⟩ := Option.bind_eq_some_iff.mp he
  split at he
  case isTrue => cases he
  rename_i cc
  obtain ⟨a, ha, he⟩ := Option.bind_eq_some_iff.mp he
  split at he
  case isFalse => cases he
  rename_i hi
  obtain ⟨⟨rs, e2⟩, h2, ez⟩ := Option.bind_eq_some_iff.mp he
  exact meth_core hd ho h I h1 cc ha hi h2 fun F2 H2 fp2 vs I2 go2 rr => .inr (callB_ok I2 rr ez (k.go go2))
theorem se_methX {c : Nat} {m : Str} {f : GF} {b : BF} {ds : List A} {dvs : List V} {pu : Bool} {to : TE} {t : TA} {gt : G} {g : Env → Option (List R × Env)} (hd : scV ds = some dvs) (ho : SE cl kp pu to gt) (h : SR cl kp t g) : SE cl kp false (tMeth (cl c) m (spX cl f b) dvs Eh to t) (gMeth c m f ds gt g) := by
  intro τ F H fp env σ Q r env' I he k
  obtain ⟨⟨r0, e1⟩, h1, he⟩ := Option.bind_eq_some_iff.mp he
  split at he
  case isTrue => cases he
  rename_i cc
  obtain ⟨a, ha, he⟩ := Option.bind_eq_some_iff.mp he
  split at he
  case isFalse => cases he
  rename_i hi
  obtain ⟨⟨rs, e2⟩, h2, ez⟩ := Option.bind_eq_some_iff.mp he
  exact meth_core hd ho h I h1 cc ha hi h2 fun F2 H2 fp2 vs I2 go2 rr => .inl (call_ok I2 rr ez fun F' H' fp' S v I' go' r' => k F' H' fp' S v I' (go2.trans go') r' fun z => nomatch z)
/-! ### statements -/
theorem bs_expr {t : TE} {b : GB} (h : BE cl kp Eh t b) : BS cl kp Eh (tDrop t) b := fun _ _ _ _ _ _ _ _ _ I e k => h I e k
theorem bs_asg {t : TE} {tg : TG} {b : GB} (h : BE cl kp Eh t b) : BS cl kp Eh (tAsg t tg) b := fun _ _ _ _ _ _ _ _ _ I e k => h I e k
theorem bs_ret {t : TE} {b : GB} (h : BE cl kp Eh t b) : BS cl kp Eh (tRet t) b := fun _ _ _ _ _ _ _ _ _ I e k => h I e k
/-- the statement goes well, or it lets the error out -/
def gOr (g : GS) (b : GB) : GS := fun env => match g env with
  | some p => some p
  | none => match b env with
    | some p => some (.er p.1, p.2)
    | none => none
theorem ss_or {t : TS} {g : GS} {b : GB} (h : SS cl kp Eh t g) (hb : BS cl kp Eh t b) : SS cl kp Eh t (gOr g b) := by
  intro τ F H fp env σ D f env' I e k
  unfold gOr at e
  split at e
  · rename_i p hp
    cases e
    exact h I hp k
  · split at e
    · rename_i p hp
      cases e
      exact hb I hp fun F' H' fp' S cls d I' go ea n => k F' H' fp' σ S cls d I' go ea n
    · cases e
/-! ### raise -/
def PrA : A → Prop
  | .int i => i.natAbs.log2 < 1920
  | .str y => y.length ≤ 1921
  | _ => False
theorem PrA.pr {a : A} {v : V} (p : PrA a) (h : Rp cl F a v) : Eb.Pr v := by
  cases a with
  | int i => cases (show v = V.int i from h); exact .inl ⟨i, rfl, p⟩
  | str y => cases (show v = V.str y from h); exact .inr ⟨y, rfl, p⟩
  | _ => exact p.elim
def fzs : List R → Option (List A)
  | [] => some []
  | .fz a :: rs => (fzs rs).map (a :: ·)
  | _ => none
theorem fzs_ok : ∀ {rs : List R} {xs : List A} {vs : List V}, fzs rs = some xs → RRs cl F σ rs vs → RpL cl F xs vs
  | [], _, _, e, h => by cases e; cases h; rfl
  | .fz a :: rs, _, _, e, h => by
    obtain ⟨ys, hy, rfl⟩ := Option.map_eq_some_iff.mp e
    obtain ⟨v, r, rfl, q, z⟩ := h
    exact ⟨v, r, rfl, q, fzs_ok hy z⟩
  | .pl _ :: _, _, _, e, _ => nomatch e
  | .pf _ _ :: _, _, _, e, _ => nomatch e
  | .ow _ :: _, _, _, e, _ => nomatch e
theorem prAs : ∀ {xs : List A} {vs : List V}, (∀ a ∈ xs, PrA a) → RpL cl F xs vs → ∀ v ∈ vs, Eb.Pr v
  | [], _, _, h, v, m => by cases h; cases m
  | a :: xs, _, p, h, v, m => by
    obtain ⟨u, r, rfl, q, z⟩ := h
    rcases List.mem_cons.mp m with rfl | m
    · exact (p a List.mem_cons_self).pr q
    · exact prAs (fun b hb => p b (List.mem_cons_of_mem _ hb)) z v m
open Classical in
noncomputable def gRaise (c : Nat) (g : Env → Option (List R × Env)) : GS := fun env => (g env).bind fun p => (fzs p.1).bind fun xs => if xs.length = (eF c).length ∧ ∀ a ∈ xs, PrA a then some (.er ⟨c, xs⟩, p.2) else none
theorem ss_raise {c : Nat} {flds : List Str} {ta : TA} {g : Env → Option (List R × Env)} (hf : eF c = flds) (h : SR cl kp ta g) : SS cl kp Eh (Eb.tRaiseEr (cl (100 + c)) flds (fun cls d _ H => Eh cls d H) ta) (gRaise c g) := by
  subst hf
  intro τ F H fp env σ D f env' I e k
  obtain ⟨⟨rs, e1⟩, h1, e⟩ := Option.bind_eq_some_iff.mp e
  obtain ⟨xs, hx, e⟩ := Option.bind_eq_some_iff.mp e
  split at e
  case isFalse => cases e
  rename_i c12
  cases e
  refine h I h1 fun F1 H1 fp1 vs I1 go1 rr => ?_
  have r := fzs_ok hx rr
  refine ⟨by rw [RpL.length r]; exact c12.1, prAs c12.2 r, fun d hd => ?_⟩
  have nU : ¬ U fp1 d := fun ⟨i, z⟩ => (I1.dom i d z).ne hd
  have nF : F1 d = none := by
    cases q : F1 d with
    | none => rfl
    | some o => rw [I1.le _ _ q] at hd; cases hd
  refine k F1 _ fp1 σ (fun p => p = d) _ _ (I1.apart (o := .xd ((eF c).zip vs).reverse) rfl nU nF) ?_ ⟨rfl, d, vs, rfl, rfl, upd_same, r, c12.1⟩ ?_
  · exact go1.trans (Go.laid hd)
  · rintro p rfl
    exact ⟨nF, ⟨_, upd_same, rfl⟩, nU⟩
end
/-! ### a def that may let errors out -/
section
variable {cl : Nat → Addr}
theorem body_okB {N : List Str} {vs : List V} {ra kp : List Nat} {m : Nat} {g : GS} {t : TS} {Q : VK} {n : Nat} {E : XK} {H : Hp} (hN : N.length = n + m) (hk : ∀ i, i < n → i ∉ ra → i ∈ kp) (h : SS cl kp E t g) (sp : spB cl (fnB ra n m g) vs H Q E) :
    t { nx := fun _ H' => Q .non H', rt := Q } (L2.start N vs) H := by
  obtain ⟨F, fp, os, e, os', I, he, k⟩ := sp
  unfold fnB at he
  split at he
  case isFalse => cases he
  rename_i c
  obtain ⟨l, ok⟩ := c
  obtain ⟨⟨f, env'⟩, hg, he⟩ := Option.bind_eq_some_iff.mp he
  have hf : f = .er e ∧ os' = finO ra 0 os env' := by cases f <;> cases he <;> exact ⟨rfl, rfl⟩
  obtain ⟨rfl, rfl⟩ := hf
  have ln : os.length = vs.length := by have := I.len; simpa using this
  have I0 := I.start m (by omega : N.length = vs.length + m) kp
  have go0 : Go F H (U fp) F H (U fun i p => i < vs.length ∧ fp i p) := Go.refl.mono fun p ⟨i, _, z⟩ => ⟨i, z⟩
  have sub : ∀ {fp' : Nat → Addr → Prop} (p : Addr), U (fun i p => i < vs.length ∧ i ∉ ra ∧ fp' i p) p → U fp' p := fun p ⟨i, _, _, z⟩ => ⟨i, z⟩
  refine h I0 hg ?_
  intro F' H' fp' σ' S cls d I' go ea nS
  exact k F' H' _ S cls d (I.fin ok (fun i hi hr => hk i (by omega) hr) (by omega) I' go.sF) ((go0.trans go).mono fun p z => z.imp (sub p) id) ea fun p s => ⟨(nS p s).1, (nS p s).2.1, fun z => (nS p s).2.2 (sub p z)⟩
end
section
variable {P : Program} {w : World} {K : PySem.W.Frag} {mg : Str → Option Value} {base : Heap} {cl : Nat → Addr}
theorem _root_.L2.Fun.okB {x qual : Str} {st : Stmt} {f : Addr} {fd : FuncData} {N ps : List Str} {k k0 : Nat} {D : GF} (F : Fun K x qual st f fd) (S : FnScope N ps (defScope st)) (ra kp : List Nat) (m : Nat) (g : GS) (good : FnOk P w K mg base CX0 k0 f fd ps (spD cl D)) (h0 : k0 ≤ k + 1)
    (hN : N.length = ps.length + m) (hk : ((List.range ps.length).all fun i => ra.contains i || kp.contains i) = true)
    (body : ∀ (cdv : Value) (A : Around) (outer : List PySem.Env) (s : Shared) (H : Hp) (E : XK), Room k (A.deeper (PyProof.Rows.envOfC qual (defScope st) s.heap.objs.size f cdv)) →
      ∃ t, PSs (cxOf (L2N.CX P w) P w K mg base N qual (defScope st) f cdv A outer s H E) (defBody st) t ∧ SS cl kp E t g) : FnOk P w K mg base (L2N.CX P w) (k + 1) f fd ps (spX cl D (fnB ra ps.length m g)) := by
  refine (good.free.mono h0).or (F.okN S (fun vs H Q E h => ?_) (fun cdv A outer s H vs Q E hr h => ?_))
  · obtain ⟨F, fp, os, e, os', I, he, _⟩ := h
    unfold fnB at he
    split at he
    case isFalse => cases he
    rename_i c
    have := I.len
    rw [List.length_map] at this
    omega
  · obtain ⟨t, ht, hs⟩ := body cdv A outer s H E hr
    refine ⟨t, ht, body_okB hN (fun i hi hr => ?_) hs h⟩
    have := List.all_eq_true.mp hk i (List.mem_range.mpr hi)
    rcases Bool.or_eq_true_iff.mp this with z | z
    · exact (hr (by simpa using z)).elim
    · simpa using z
end
end Dl
namespace Dl
open PySem PySem.Spec L2
/-- where the classes of errors stand -/
def erOf (cl : Nat → Addr) : Eb.Errs := ⟨cl 99, cl 100, cl 101, cl 102, cl 103, cl 104, cl 105, cl 106, cl 107, cl 108, cl 109, cl 110, cl 111, cl 112, cl 113, cl 114, cl 115, cl 116, cl 117, cl 118⟩
/-! ## try .. except C as n: return [..] -/
section
variable (cl : Nat → Addr) (K : PySem.W.Frag) (i c : Nat)
/-- an item of the list that a clause gives -/
def HE (te : Addr → Value → Option Addr → TE) (x : List A → A) : Prop :=
  ∀ ⦃a dd : Addr⦄ ⦃σ : L2.St⦄ ⦃F H : Hp⦄ ⦃xs : List A⦄ ⦃vs : List V⦄ ⦃Q : VK⦄, σ[i]? = some (some (V.ref a)) → H dd = some (.xd ((eF c).zip vs).reverse) → RpL cl F xs vs → xs.length = (eF c).length → (∀ H' v, Same H H' → Rp cl F (x xs) v → Q v H') → te a (.ref (cl (100 + c))) (some dd) σ H Q
def HA (ta : Addr → Value → Option Addr → TA) (f : List A → List A) : Prop :=
  ∀ ⦃a dd : Addr⦄ ⦃σ : L2.St⦄ ⦃F H : Hp⦄ ⦃xs : List A⦄ ⦃vs : List V⦄ ⦃Q : List V → Hp → Prop⦄, σ[i]? = some (some (V.ref a)) → H dd = some (.xd ((eF c).zip vs).reverse) → RpL cl F xs vs → xs.length = (eF c).length → (∀ H' ws, Same H H' → RpL cl F (f xs) ws → Q ws H') → ta a (.ref (cl (100 + c))) (some dd) σ H Q
/-- the suite of a clause -/
def HS (ts : Addr → Value → Option Addr → TS) (f : List A → List A) : Prop :=
  ∀ ⦃a dd : Addr⦄ ⦃σ : L2.St⦄ ⦃F H : Hp⦄ ⦃xs : List A⦄ ⦃vs : List V⦄ ⦃D : Ends⦄, σ[i]? = some (some (V.ref a)) → H dd = some (.xd ((eF c).zip vs).reverse) → RpL cl F xs vs → xs.length = (eF c).length → (∀ H' q ws, Same H H' → H q = none → H' q = some (.lst ws) → RpL cl F (f xs) ws → D.rt (.ref q) H') → ts a (.ref (cl (100 + c))) (some dd) D σ H
end
/-- the clauses -/
def HD (cl : Nat → Addr) (K : PySem.W.Frag) (n i : Nat) (tab : Nat → Option (List A → List A)) (l : L2N.Clauses) : Prop :=
  ∀ ⦃Wout : WX⦄ ⦃D : Ends⦄ ⦃c : Nat⦄ ⦃f : List A → List A⦄ ⦃σ : L2.St⦄ ⦃F H : Hp⦄ ⦃xs : List A⦄ ⦃vs : List V⦄ ⦃dd : Addr⦄, tab c = some f → σ.length = n → i < n → H dd = some (.xd ((eF c).zip vs).reverse) → RpL cl F xs vs → xs.length = (eF c).length →
    (∀ H' q ws, Same H H' → H q = none → H' q = some (.lst ws) → RpL cl F (f xs) ws → D.rt (.ref q) H') → L2N.wClauses K i Wout D l (.ref (cl (100 + c))) (some dd) σ H
section
variable {cl : Nat → Addr} {K : PySem.W.Frag} {i c n : Nat}
theorem he_f {nm : Str} {k : Nat} (hl : ∀ vs : List V, vs.length = (eF c).length → ((eF c).zip vs).reverse.lookup nm = vs[k]?) (hk : k < (eF c).length) : HE cl i c (fun a cls d => tXf a cls d (cl (100 + c)) nm (tVar i)) (fun xs => xs.getD k .non) := by
  intro a dd σ F H xs vs Q s hd r le q
  have e : xs[k]? = some (xs.getD k .non) := by rw [List.getD_eq_getElem?_getD, List.getElem?_eq_getElem (by omega)]; rfl
  obtain ⟨v, hv, hr⟩ := RpL.at r e
  exact ⟨_, s, rfl, rfl, dd, _, v, rfl, hd, by rw [hl vs (by rw [RpL.length r]; exact le)]; exact hv, q H v (Same.refl H) hr⟩
theorem he_s {r : Eb.Errs} (kg : Eb.KitsG K r (cl (100 + c))) : HE cl i c (fun a cls d => Eb.tSing K r a cls d i) (fun _ => .bl true) := by
  intro a dd σ F H xs vs Q s hd rr le q
  exact ⟨s, _, dd, _, rfl, rfl, kg, hd, fun H' k => q H' _ k rfl⟩
theorem ha_nil : HA cl i c (fun _ _ _ => tNil) (fun _ => []) := fun _ _ _ _ H _ _ Q _ _ _ _ k => k H [] (Same.refl H) rfl
theorem ha_cons {te : Addr → Value → Option Addr → TE} {ta : Addr → Value → Option Addr → TA} {x : List A → A} {f : List A → List A} (h : HE cl i c te x) (hs : HA cl i c ta f) : HA cl i c (fun a cls d => tCons (te a cls d) (ta a cls d)) (fun xs => x xs :: f xs) := by
  intro a dd σ F H xs vs Q s hd r le k
  refine h s hd r le fun H1 v s1 rv => hs s (s1 _ _ hd) r le fun H2 ws s2 rw => k H2 (v :: ws) (s1.trans s2) ⟨v, ws, rfl, rv, rw⟩
theorem hs_ret {ta : Addr → Value → Option Addr → TA} {f : List A → List A} (h : HA cl i c ta f) (hf : ∀ xs, (f xs).length ≤ sizeLine) : HS cl i c (fun a cls d => tRet (tLst (ta a cls d))) f := by
  intro a dd σ F H xs vs D s hd r le k
  refine h s hd r le fun H1 ws s1 rw => ⟨by rw [RpL.length rw]; exact hf xs, fun q hq => k _ q ws (updN s1 ?_) ?_ upd_same rw⟩
  · cases e : H q with
    | none => rfl
    | some o => rw [s1 _ _ e] at hq; cases hq
  · cases e : H q with
    | none => rfl
    | some o => rw [s1 _ _ e] at hq; cases hq
theorem hd_nil : HD cl K n i (fun _ => none) [] := fun _ _ _ _ _ _ _ _ _ _ e => nomatch e
theorem hd_cons {ts : Addr → Value → Option Addr → TS} {f : List A → List A} {tab : Nat → Option (List A → List A)} {l : L2N.Clauses} (hit : PySem.W.exmOne K (.ref (cl (100 + c))) (.ref (cl (100 + c))) = some true)
    (miss : ∀ c', (tab c').isSome = true → c' ≠ c → PySem.W.exmOne K (.ref (cl (100 + c'))) (.ref (cl (100 + c))) = some false) (h : HS cl i c ts f) (hl : HD cl K n i tab l) :
    HD cl K n i (fun c' => if c' = c then some f else tab c') ((.ref (cl (100 + c)), ts) :: l) := by
  intro Wout D c' f' σ F H xs vs dd ht ln hi hd r le k
  by_cases e : c' = c
  · subst e
    simp only [if_true, Option.some.injEq] at ht
    subst ht
    refine ⟨true, hit, ?_⟩
    rw [if_pos rfl]
    exact fun a _ => h (by rw [List.getElem?_set_self (by omega)]) hd r le k
  · simp only [e, if_false] at ht
    refine ⟨false, miss c' (by rw [ht]; rfl) e, ?_⟩
    rw [if_neg Bool.false_ne_true]
    exact hl ht ln hi hd r le k
end
/-! ### the def -/
def fnT (ra : List Nat) (n m : Nat) (g gt : GS) (tab : Nat → Option (List A → List A)) : GF := fun os =>
  if os.length = n ∧ okRa ra os = true then (g (os ++ List.replicate m .un)).bind fun p => match p.1 with
    | .nx => (gt p.2).bind fun q => match q.1 with
      | .rt o => some (o, finO ra 0 os q.2)
      | _ => none
    | .rt o => some (o, finO ra 0 os p.2)
    | .er e => (tab e.c).map fun f => (.fl (.lst (f e.xs)), finO ra 0 os p.2)
    | _ => none
  else none
section
variable {cl : Nat → Addr} {kp : List Nat} {τ σ : L2.St} {F F' H H' : Hp} {fp : Nat → Addr → Prop} {env : Env} {S : Addr → Prop}
theorem Rs.sameH (I : Rs cl kp τ F H fp env σ) {H2 : Hp} (s : Same H H2) : Rs cl kp τ F H2 fp env σ :=
  ⟨I.len, fun i x e => (I.slot i x e).imp id fun ⟨v, a, b⟩ => ⟨v, a, OR.go (Same.refl F) (fun q u h e => s _ _ e) b⟩, I.dis, I.sep, fun i q h => let ⟨o, a, b⟩ := I.dom i q h; ⟨o, s _ _ a, b⟩, I.le.trans s, I.pro, I.tl⟩
theorem body_okT {N : List Str} {vs : List V} {ra kp : List Nat} {m : Nat} {g gt : GS} {tab : Nat → Option (List A → List A)} {tb : WX → TS} {tt : TS} {Q : VK} {n i : Nat} {E Et : XK} {l : L2N.Clauses} {Wout : WX} {K : PySem.W.Frag} (hN : N.length = n + m) (hi : i < N.length) (hk : ∀ i, i < n → i ∉ ra → i ∈ kp)
    (hb : ∀ W, SS cl kp (eAll N.length W) (tb W) g) (ht : SS cl kp Et tt gt) (hd : HD cl K N.length i tab l) (sp : spD cl (fnT ra n m g gt tab) vs H Q E) :
    tSeq (fun D σ H => tb (L2N.wClauses K i Wout D l) D σ H) tt { nx := fun _ H' => Q .non H', rt := Q } (L2.start N vs) H := by
  obtain ⟨F, fp, os, res, os', I, he, k⟩ := sp
  unfold fnT at he
  split at he
  case isFalse => cases he
  rename_i c
  obtain ⟨l0, ok⟩ := c
  obtain ⟨⟨f, env1⟩, hg, he⟩ := Option.bind_eq_some_iff.mp he
  have ln : os.length = vs.length := by have := I.len; simpa using this
  have I0 := I.start m (by omega : N.length = vs.length + m) kp
  have go0 : Go F H (U fp) F H (U fun i p => i < vs.length ∧ fp i p) := Go.refl.mono fun p ⟨i, _, z⟩ => ⟨i, z⟩
  have sub : ∀ {fp' : Nat → Addr → Prop} (p : Addr), U (fun i p => i < vs.length ∧ i ∉ ra ∧ fp' i p) p → U fp' p := fun p ⟨i, _, _, z⟩ => ⟨i, z⟩
  have fin : ∀ {F' H' : Hp} {fp' : Nat → Addr → Prop} {env' : Env} {σ' : L2.St}, Rs cl kp (L2.start N vs) F' H' fp' env' σ' → Same F F' → Rs cl [] (vs.map some) F' H' (fun i p => i < vs.length ∧ i ∉ ra ∧ fp' i p) (finO ra 0 os env') (vs.map some) :=
    fun I' s => I.fin ok (fun i hi hr => hk i (by omega) hr) (by omega) I' s
  refine hb _ I0 hg ?_
  cases f with
  | nx =>
    obtain ⟨⟨f2, env2⟩, hg2, he⟩ := Option.bind_eq_some_iff.mp he
    intro F1 H1 fp1 σ1 I1 go1
    refine ht I1 hg2 ?_
    cases f2 with
    | rt o =>
      cases he
      intro F' H' fp' σ' S v I' go rr nS
      exact k F' H' _ S v (fin I' (go1.sF.trans go.sF)) (((go0.trans go1).trans go).mono fun p z => z.imp (sub p) id) rr fun p s => ⟨(nS p s).1, (nS p s).2.1, fun z => (nS p s).2.2 (sub p z)⟩
    | _ => cases he
  | rt o =>
    cases he
    intro F' H' fp' σ' S v I' go rr nS
    exact k F' H' _ S v (fin I' go.sF) ((go0.trans go).mono fun p z => z.imp (sub p) id) rr fun p s => ⟨(nS p s).1, (nS p s).2.1, fun z => (nS p s).2.2 (sub p z)⟩
  | er e =>
    obtain ⟨h, hh, z⟩ := Option.map_eq_some_iff.mp he
    cases z
    intro F' H' fp' σ' S cls d I' go ea nS σ2 hl
    obtain ⟨rfl, dd, ws, rfl, sd, hdd, r, le⟩ := ea
    refine hd hh hl hi hdd r le fun H2 q us s2 hq h2 ru => ?_
    have J := (fin I' go.sF).sameH s2
    have fq : F' q = none := by
      cases z : F' q with
      | none => rfl
      | some o => rw [I'.le _ _ z] at hq; cases hq
    have nq : ¬ U fp' q := fun ⟨j, z⟩ => (I'.dom j q z).ne hq
    have G := (go0.trans go).trans (Go.of_same s2)
    refine k F' H2 _ (fun p => p = q) (.ref q) J ⟨G.sF, G.keep, G.new, fun p z => ?_, G.dom, G.ntd⟩ ⟨q, us, rfl, rfl, h2, ru⟩ ?_
    · rcases z with z | z
      · exact G.fpn p (.inl (sub p z))
      · subst z
        cases w : H p with
        | none => exact .inr rfl
        | some o => exact ((go0.trans go).dom p (by rw [w]; exact fun z => nomatch z) hq).elim
    · rintro p rfl
      exact ⟨fq, ⟨_, h2, rfl⟩, fun z => nq (sub p z)⟩
  | bk => cases he
  | ct => cases he
end
section
variable {P : Program} {w : World} {K : PySem.W.Frag} {mg : Str → Option Value} {base : Heap} {cl : Nat → Addr}
theorem fnT_len {ra : List Nat} {n m : Nat} {g gt : GS} {tab : Nat → Option (List A → List A)} {os : List O} {r : O × List O} (h : fnT ra n m g gt tab os = some r) : os.length = n := by
  unfold fnT at h
  split at h
  · rename_i c; exact c.1
  · cases h
theorem _root_.L2.Fun.okTry {x qual : Str} {st : Stmt} {f : Addr} {fd : FuncData} {N ps : List Str} {k : Nat} (F : Fun K x qual st f fd) (S : FnScope N ps (defScope st)) (ra kp : List Nat) (m i : Nat) (g gt : GS) (tab : Nat → Option (List A → List A))
    (hN : N.length = ps.length + m) (hi : i < N.length) (hk : ((List.range ps.length).all fun i => ra.contains i || kp.contains i) = true)
    (body : ∀ (cdv : Value) (A : Around) (outer : List PySem.Env) (s : Shared) (H : Hp) (E : XK), Room k (A.deeper (PyProof.Rows.envOfC qual (defScope st) s.heap.objs.size f cdv)) →
      ∃ (tb : WX → TS) (l : L2N.Clauses) (Wout : WX) (tt : TS), PSs (cxOf CX0 P w K mg base N qual (defScope st) f cdv A outer s H E).nox (defBody st) (tSeq (fun D σ H => tb (L2N.wClauses K i Wout D l) D σ H) tt) ∧ (∀ W, SS cl kp (eAll N.length W) (tb W) g) ∧ SS cl kp E tt gt ∧ HD cl K N.length i tab l) :
    FnOk P w K mg base CX0 (k + 1) f fd ps (spD cl (fnT ra ps.length m g gt tab)) := by
  refine F.ok S (fun vs H Q E h => ?_) (fun cdv A outer s H vs Q E hr h => ?_)
  · obtain ⟨F, fp, os, res, os', I, e, _⟩ := h
    have l := fnT_len e
    have := I.len
    rw [List.length_map] at this
    omega
  · obtain ⟨tb, l, Wout, tt, hp, hb, ht, hd⟩ := body cdv A outer s H E hr
    refine ⟨_, hp, body_okT hN hi (fun i hi hr => ?_) hb ht hd h⟩
    have := List.all_eq_true.mp hk i (List.mem_range.mpr hi)
    rcases Bool.or_eq_true_iff.mp this with z | z
    · exact (hr (by simpa using z)).elim
    · simpa using z
end
end Dl
namespace Dl
open PySem PySem.Spec L2
/-! ### f(..) whose arguments are lent: f changes none of them, its result holds nothing of them -/
def vws (env : Env) : List R → Option (List A)
  | [] => some []
  | r :: rs => (r.vw env).bind fun a => (vws env rs).map (a :: ·)
def lendK (e : Env) : O → Option (R × Env)
  | .fl (.fz a) => if a.sc.isSome then some (.fz a, e) else none
  | .fl (.lst xs) => if (scV xs).isSome then some (.ow (.fl (.lst xs)), e) else none
  | _ => none
def gCallL (f : GF) (ds : List A) (g : Env → Option (List R × Env)) : G := fun env => (g env).bind fun p => (vws p.2 p.1).bind fun as => (f ((as ++ ds).map fun a => .fl (.fz a))).bind fun q => lendK p.2 q.1
section
variable {cl : Nat → Addr} {kp : List Nat} {τ σ : L2.St} {F F' H H' : Hp} {fp : Nat → Addr → Prop} {env : Env} {S : Addr → Prop} {K : PySem.W.Frag} {Eh : XK}
theorem lent (I : Rs cl kp τ F H fp env σ) : ∀ {rs : List R} {vs : List V} {as : List A}, RRs cl F σ rs vs → vws env rs = some as → RpL cl (Dl.plus F H (U fp)) as vs
  | [], _, _, h, e => by cases h; cases e; rfl
  | .fz b :: rs, _, _, h, e => by
    obtain ⟨v, r, rfl, q, z⟩ := h
    obtain ⟨a, ha, e⟩ := Option.bind_eq_some_iff.mp e
    obtain ⟨as, hs, rfl⟩ := Option.map_eq_some_iff.mp e
    cases ha
    exact ⟨v, r, rfl, Rp.same (plus_le fun p ⟨i, h⟩ => I.sep i p h) q, lent I z hs⟩
  | .pl i :: rs, _, _, h, e => by
    obtain ⟨v, r, rfl, q, z⟩ := h
    obtain ⟨a, ha, e⟩ := Option.bind_eq_some_iff.mp e
    obtain ⟨as, hs, rfl⟩ := Option.map_eq_some_iff.mp e
    obtain ⟨o, ho, w⟩ := Option.bind_eq_some_iff.mp (show (env[i]?.bind O.vw) = some a from ha)
    obtain ⟨u, hu, r'⟩ := I.at ho w
    rw [q] at hu
    cases hu
    have rp := OR.plus (I.sep i) r' w
    refine ⟨v, r, rfl, Rp.same (fun p o e => ?_) rp, lent I z hs⟩
    by_cases c : fp i p
    · rw [plus_in c] at e; rw [plus_in ⟨i, c⟩]; exact e
    · rw [plus_out c] at e
      rw [plus_out fun ⟨j, z⟩ => by rw [I.sep j p z] at e; cases e]; exact e
  | .pf _ _ :: _, _, _, h, _ => h.elim
  | .ow _ :: _, _, _, h, _ => h.elim
theorem Rs.frozen (le : Same F H) {as : List A} {vs : List V} (h : RpL cl F as vs) : Rs cl [] (vs.map some) F H (fun _ _ => False) (as.map fun a => .fl (.fz a)) (vs.map some) := by
  refine ⟨by rw [List.length_map, List.length_map]; exact h.length.symm, fun i o e => ?_, fun _ _ _ z => z.elim, fun _ _ z => z.elim, fun _ _ z => z.elim, le, (fun i m => nomatch m), rfl⟩
  rw [List.getElem?_map] at e
  obtain ⟨a, ha, rfl⟩ := Option.map_eq_some_iff.mp e
  obtain ⟨v, hv, q⟩ := h.at ha
  exact .inr ⟨v, by rw [List.getElem?_map, hv]; rfl, q⟩
theorem Rp.free {a : A} {v : V} (e : a.sc.isSome = true) (h : Rp cl F a v) (F' : Hp) : Rp cl F' a v := by
  obtain ⟨u, hu⟩ := Option.isSome_iff_exists.mp e
  rw [Rp.sc hu h]; exact Rp.of_sc hu
theorem RpL.free : ∀ {xs : List A} {vs : List V}, (scV xs).isSome = true → RpL cl F xs vs → ∀ F' : Hp, RpL cl F' xs vs
  | [], _, _, h, _ => h
  | x :: xs, _, e, h, F' => by
    obtain ⟨v, r, rfl, q, z⟩ := h
    obtain ⟨us, hu⟩ := Option.isSome_iff_exists.mp e
    obtain ⟨u, h1, hu⟩ := Option.bind_eq_some_iff.mp hu
    obtain ⟨ws, h2, _⟩ := Option.map_eq_some_iff.mp hu
    exact ⟨v, r, rfl, Rp.free (by rw [h1]; rfl) q F', RpL.free (by rw [h2]; rfl) z F'⟩
end
end Dl
namespace Dl
open PySem PySem.Spec L2
section
variable {cl : Nat → Addr} {kp : List Nat} {τ σ : L2.St} {F F' H H' : Hp} {fp : Nat → Addr → Prop} {env : Env} {S : Addr → Prop} {K : PySem.W.Frag} {Eh : XK}
/-! ### own operators that let errors out -/
def bOwn2 (cond : A → A → Bool) (sw : Bool) (f : BF) (ga gb : G) : GB := fun env => (gA ga (gA gb gA0) env).bind fun p => match p.1 with
  | [r1, r2] => (r1.vw p.2).bind fun a => (r2.vw p.2).bind fun b => if cond a b then callB f (if sw then [r2, r1] else [r1, r2]) p.2 else none
  | _ => none
theorem be_op2 {f : GF} {bf : BF} {cond : A → A → Bool} {sw : Bool} {r : R2} {pa pb : Bool} {ta tb : TE} {ga gb : G}
    (hr : ∀ {F H : Hp} {x y : V} {a b : A} {Q : VK}, Same F H → Rv cl F H a x → Rv cl F H b y → cond a b = true → spX cl f bf (if sw then [y, x] else [x, y]) H Q Eh → r x y H Q) (ha : SE cl kp pa ta ga) (hb : SE cl kp pb tb gb) :
    BE cl kp Eh (tOp r ta tb) (bOwn2 cond sw bf ga gb) := by
  intro τ F H fp env σ Q ev env' I e k
  obtain ⟨⟨rs, e2⟩, e1, e⟩ := Option.bind_eq_some_iff.mp e
  show tCons ta (tCons tb tNil) σ H fun vs H2 => r (vs.headD .non) (vs.tail.headD .non) H2 Q
  refine sr_cons ha (sr_cons hb (sr_nil (cl := cl) (kp := kp))) I e1 fun F' H' fp' vs I' go rr => ?_
  match rs, e with
  | [r1, r2], e =>
    obtain ⟨a, wa, e⟩ := Option.bind_eq_some_iff.mp (show ((r1.vw e2).bind fun a => (r2.vw e2).bind fun b => if cond a b then callB bf (if sw then [r2, r1] else [r1, r2]) e2 else none) = some (ev, env') from e)
    obtain ⟨b, wb, e⟩ := Option.bind_eq_some_iff.mp e
    split at e
    case isFalse => cases e
    rename_i hc
    have hl := rr.len
    match vs, hl with
    | [x, y], _ =>
      have rx := rr.rv I' (i := 0) rfl rfl wa
      have ry := rr.rv I' (i := 1) rfl rfl wb
      refine hr I'.le rx ry hc (.inr ?_)
      cases sw with
      | false => exact callB_ok I' rr e (k.go go)
      | true =>
        have rr' : RRs cl F' σ [r2, r1] [y, x] := by
          obtain ⟨v1, h1, w1⟩ := rr.at (k := 0) (r := r1) rfl
          obtain ⟨v2, h2, w2⟩ := rr.at (k := 1) (r := r2) rfl
          cases h1
          cases h2
          cases r1 <;> cases r2 <;> first | exact ⟨_, _, rfl, w2, _, _, rfl, w1, rfl⟩ | exact w1.elim | exact w2.elim
        exact callB_ok I' rr' e (k.go go)
theorem hr_bin {c : Nat} {sp : Sp} {E : XK} {x y : V} {a b : A} {Q : VK} (s : Same F H) (ra : Rv cl F H a x) (rb : Rv cl F H b y) (hc : bothIns c a b = true) (h : sp [x, y] H Q E) : rBin (cl c) sp E x y H Q := by
  obtain ⟨h1, h2⟩ := and_t hc
  obtain ⟨p, dx, fs, rfl, hp⟩ := ra.ins h1
  obtain ⟨q, dy, gs, rfl, hq⟩ := rb.ins h2
  exact ⟨p, dx, fs, q, dy, gs, rfl, rfl, hp, hq, h⟩
theorem se_binX {c : Nat} {f : GF} {bf : BF} {E : XK} {pa pb : Bool} {ta tb : TE} {ga gb : G} (ha : SE cl kp pa ta ga) (hb : SE cl kp pb tb gb) : SE cl kp false (tOp (rBin (cl c) (spX cl f bf) E) ta tb) (gOp2 (bothIns c) false f ga gb) :=
  se_op2 (fun s ra rb hc sp => hr_bin s ra rb hc (.inl sp)) ha hb
theorem be_bin {c : Nat} {f : GF} {bf : BF} {pa pb : Bool} {ta tb : TE} {ga gb : G} (ha : SE cl kp pa ta ga) (hb : SE cl kp pb tb gb) : BE cl kp Eh (tOp (rBin (cl c) (spX cl f bf) Eh) ta tb) (bOwn2 (bothIns c) false bf ga gb) :=
  be_op2 (fun s ra rb hc sp => hr_bin s ra rb hc sp) ha hb
/-! ### the walk of a comprehension -/
end
end Dl
namespace L2
open PySem PySem.Spec PyProof.Rows
/-! ## o[i] = v, o an own instance -/
section
variable {X : Cx} {CX : CXT} {k : Nat} {C f : Addr} {fd : FuncData} {ps : List Str} {sp : Sp} {E : XK}
end
end L2
namespace Dl
open PySem PySem.Spec L2
section
variable {cl : Nat → Addr} {kp : List Nat} {τ σ : L2.St} {F F' H H' : Hp} {fp : Nat → Addr → Prop} {env : Env} {S : Addr → Prop} {K : PySem.W.Frag} {Eh : XK}
def setOA (c : Nat) (gv : Env → Option (A × Env)) (g : G) (gi : Env → Option (A × Env)) : Env → Option (List R × Env) := fun env => (gv env).bind fun p => (g p.2).bind fun q => if q.1.isPf || q.1.tmp.isOw then none else
  (gi q.2).bind fun z => (q.1.tmp.vw z.2).bind fun a => if a.isIns c then some ([q.1.tmp, .fz z.1, .fz p.1], z.2) else none
def gSetO (c : Nat) (f : GF) (gv : Env → Option (A × Env)) (g : G) (gi : Env → Option (A × Env)) : GS := fun env => (setOA c gv g gi env).bind fun p => (callG f p.1 p.2).map fun r => (.nx, r.2)
end
end Dl
namespace Dl
open PySem PySem.Spec L2
section
variable {cl : Nat → Addr} {kp : List Nat} {τ σ : L2.St} {F F' H H' : Hp} {fp : Nat → Addr → Prop} {env : Env} {S : Addr → Prop} {K : PySem.W.Frag} {Eh : XK}
/-! ## d.pop(k), d.pop(k, x) -/
def isDK : Fl → Bool
  | .dK _ _ => true
  | _ => false
def gDPop (pk : Bool) (g gk : G) : G := fun env => (g env).bind fun q => (getP q.2 q.1).bind fun f0 => if isDK f0 && (!q.1.isPf || pk) then (gOne gk q.2).bind fun z => (getP z.2 q.1).bind fun fl => match fl with
    | .dK ks xs => (keyA z.1).bind fun q' => (valA ks xs q').map fun a => (.fz a, putP z.2 q.1 (.dK (dropZ ks xs q').1 (dropZ ks xs q').2))
    | _ => none
  else none
/-! ## bits -/
abbrev fAnd := fI0 fun i j => .int (Builtin.bitAnd i j)
abbrev fShr := fI (fun _ j => 0 ≤ j) fun i j => .int (i / 2 ^ j.toNat)
theorem oi_and : OpI cl (rI0 fun i j => .int (Builtin.bitAnd i j)) fAnd := oi_I0 fun _ _ => rfl
theorem oi_shr : OpI cl (rI (fun _ j => 0 ≤ j) fun i j => .int (i / 2 ^ j.toNat)) fShr := oi_I fun _ _ => rfl
end
end Dl
namespace Dl
open PySem PySem.Spec L2
/-! ### calls whose arguments are lent: the result is made of plain things, tuples and instances of other kinds -/
mutual
def avoid (nss : List (List Str)) : A → Bool
  | .non => true
  | .bl _ => true
  | .int _ => true
  | .str _ => true
  | .kls _ => true
  | .tup xs => avoidL nss xs
  | .ins _ ns xs => !nss.contains ns && avoidL nss xs
  | .lst _ => false
  | .dK _ _ => false
  | .dT _ _ => false
def avoidL (nss : List (List Str)) : List A → Bool
  | [] => true
  | x :: xs => avoid nss x && avoidL nss xs
end
def O.nsOf : O → Option (List Str)
  | .ins _ ns _ => some ns
  | _ => none
def nssOf (env : Env) (is : List Nat) : List (List Str) := is.filterMap fun i => env[i]?.bind O.nsOf
def lendA (nss : List (List Str)) (e : Env) : O → Option (R × Env)
  | .fl (.fz a) => if avoid nss a then some (.fz a, e) else none
  | .fl (.lst xs) => if avoidL nss xs then some (.ow (.fl (.lst xs)), e) else none
  | _ => none
def lendG (f : GF) (rs : List R) (env : Env) : Option (R × Env) := (vws env rs).bind fun as => (f (as.map fun a => .fl (.fz a))).bind fun q => lendA (nssOf env (plIdx rs)) env q.1
def gCallA (f : GF) (ds : List A) (g : Env → Option (List R × Env)) : G := fun env => (g env).bind fun p => lendG f (p.1 ++ ds.map .fz) p.2
def gMethA (c : Nat) (m : Str) (f : GF) (ds : List A) (go : G) (g : Env → Option (List R × Env)) : G := fun env => (go env).bind fun p => if p.1.isPf || p.1.tmp.isOw then none else
  (p.1.tmp.vw p.2).bind fun a => if insOf c m a then (g p.2).bind fun q => lendG f (p.1.tmp :: (q.1 ++ ds.map .fz)) q.2 else none
section
variable {cl : Nat → Addr} {kp : List Nat} {τ σ : L2.St} {F F' H H' : Hp} {fp : Nat → Addr → Prop} {env : Env} {S L : Addr → Prop} {K : PySem.W.Frag} {Eh : XK} {nss : List (List Str)}
open Classical in
noncomputable def less (F : Hp) (L : Addr → Prop) : Hp := fun p => if L p then none else F p
/-- a lent cell -/
def Cell (nss : List (List Str)) (L : Addr → Prop) (H : Hp) (p : Addr) : Prop := (∃ vs, H p = some (.lst vs)) ∨ (∃ k, H p = some (.dK k)) ∨ (∃ k, H p = some (.dT k)) ∨ (∃ C dx ns vs, H p = some (.ins C dx (ns.zip vs)) ∧ ns ∈ nss ∧ ns.length = vs.length) ∨ ∃ q, L q ∧ H p = some (.own q)
/-- the cells of an owned thing, no more -/
def Ex (H : Hp) (v : V) : O → Addr → Prop
  | .un, _ => False
  | .fl f, q => f.own = true ∧ v = .ref q
  | .ins _ ns fs, q => ∃ (p C dx : Addr) (vs : List V), v = .ref p ∧ H p = some (.ins C dx (ns.zip vs)) ∧ ns.length = vs.length ∧ (q = p ∨ q = dx ∨ ∃ (j : Nat) (f : Fl) (u : V), fs[j]? = some f ∧ vs[j]? = some u ∧ f.own = true ∧ u = .ref q)
theorem flo_cell {f : Fl} {o : HO} {p : Addr} (h : FlO cl F f o) (e : H p = some o) : Cell nss L H p := by
  cases f with
  | fz a => exact h.elim
  | lst xs => obtain ⟨vs, rfl, _⟩ := h; exact .inl ⟨_, e⟩
  | dK ks xs => obtain ⟨vs, rfl, _⟩ := h; exact .inr (.inl ⟨_, e⟩)
  | dT ks xs => obtain ⟨vs, rfl, _⟩ := h; exact .inr (.inr (.inl ⟨_, e⟩))
theorem OR.exact {o : O} {v : V} (h : OR cl F H S o v) : (∀ q, Ex H v o q → S q) ∧ OR cl F H (Ex H v o) o v ∧ ∀ nss, (∀ ns, o.nsOf = some ns → ns ∈ nss) → ∀ L : Addr → Prop, (∀ q, Ex H v o q → L q) → ∀ q, Ex H v o q → Cell nss L H q := by
  cases o with
  | un => exact ⟨fun _ z => z.elim, trivial, fun _ _ _ _ _ z => z.elim⟩
  | fl f =>
    refine ⟨fun q ⟨w, e⟩ => ?_, ?_, fun nss _ L _ q ⟨w, e⟩ => ?_⟩
    · obtain ⟨p, o, e', s, _, _⟩ := FlR.root h w
      rw [e] at e'; cases e'; exact s
    · by_cases w : f.own = true
      · obtain ⟨p, o, e', s, hp, ho⟩ := FlR.root h w
        subst e'
        exact FlR.of_root ⟨w, rfl⟩ hp ho
      · cases f with
        | fz a => exact h
        | _ => exact absurd rfl w
    · obtain ⟨p, o, e', s, hp, ho⟩ := FlR.root h w
      rw [e] at e'; cases e'
      exact flo_cell ho hp
  | ins c ns fs =>
    obtain ⟨p, dx, vs, T, rfl, sp, sd, q, d, z, z', rr, t1, t2⟩ := h
    have same : ∀ {p' C dx' : Addr} {vs' : List V}, V.ref p = V.ref p' → H p' = some (.ins C dx' (ns.zip vs')) → ns.length = vs'.length → p' = p ∧ C = cl c ∧ dx' = dx ∧ vs' = vs := fun {p' C dx' vs'} e1 e2 e3 => by
      cases e1
      rw [q] at e2
      injection e2 with e2
      injection e2 with y1 y2 y3
      refine ⟨rfl, y1.symm, y2.symm, ?_⟩
      have := congrArg (List.map Prod.snd) y3
      rw [List.map_snd_zip (by omega), List.map_snd_zip (by omega)] at this
      exact this.symm
    have fld : ∀ {j : Nat} {f : Fl} {u : V} {a : Addr}, fs[j]? = some f → vs[j]? = some u → f.own = true → u = .ref a → T j a ∧ ∃ o, H a = some o ∧ FlO cl F f o := fun {j f u a} hf hu w e => by
      obtain ⟨b, o, e', s, hb, ho⟩ := FlR.root (rr j f u hf hu) w
      rw [e] at e'; cases e'
      exact ⟨s, o, hb, ho⟩
    refine ⟨fun a ⟨p', C, dx', vs', e1, e2, e3, k⟩ => ?_, ?_, fun nss hn L hl a ⟨p', C, dx', vs', e1, e2, e3, k⟩ => ?_⟩
    · obtain ⟨rfl, _, rfl, rfl⟩ := same e1 e2 e3
      rcases k with rfl | rfl | ⟨j, f, u, hf, hu, w, e⟩
      · exact sp
      · exact sd
      · exact (t1 j a (fld hf hu w e).1).1
    · refine ⟨p, dx, vs, fun (j : Nat) (a : Addr) => ∃ (f : Fl) (u : V), fs[j]? = some f ∧ vs[j]? = some u ∧ f.own = true ∧ u = V.ref a, rfl, ⟨p, _, dx, vs, rfl, q, by omega, .inl rfl⟩, ⟨p, _, dx, vs, rfl, q, by omega, .inr (.inl rfl)⟩, q, d, z, z', fun j f u hf hu => ?_, fun j a ⟨f, u, hf, hu, w, e⟩ => ?_, fun j k a ⟨f, u, hf, hu, w, e⟩ ⟨f', u', hf', hu', w', e'⟩ => t2 j k a (fld hf hu w e).1 (fld hf' hu' w' e').1⟩
      · by_cases w : f.own = true
        · obtain ⟨b, o, e', s, hb, ho⟩ := FlR.root (rr j f u hf hu) w
          subst e'
          exact FlR.of_root ⟨f, _, hf, hu, w, rfl⟩ hb ho
        · have hr := rr j f u hf hu
          cases f with
          | fz a => exact hr
          | _ => exact absurd rfl w
      · exact ⟨⟨p, _, dx, vs, rfl, q, by omega, .inr (.inr ⟨j, f, u, hf, hu, w, e⟩)⟩, (t1 j a (fld hf hu w e).1).2⟩
    · obtain ⟨rfl, _, rfl, rfl⟩ := same e1 e2 e3
      have lp : L p' := hl p' ⟨p', _, dx', vs', rfl, q, e3, .inl rfl⟩
      rcases k with rfl | rfl | ⟨j, f, u, hf, hu, w, e⟩
      · exact .inr (.inr (.inr (.inl ⟨_, _, ns, vs', q, hn ns rfl, e3⟩)))
      · exact .inr (.inr (.inr (.inr ⟨p', lp, d⟩)))
      · obtain ⟨_, o, ha, ho⟩ := fld hf hu w e
        exact flo_cell ho ha
def gOp2A (cond : A → A → Bool) (f : GF) (ga gb : G) : G := fun env => (gA ga (gA gb gA0) env).bind fun p => match p.1 with
  | [r1, r2] => (r1.vw p.2).bind fun a => (r2.vw p.2).bind fun b => if cond a b then lendG f [r1, r2] p.2 else none
  | _ => none
end
end Dl
namespace Dl
open PySem PySem.Spec L2
/-! ### lent arguments, by the kinds of what is lent -/
mutual
def avoid2 (l d : Bool) (nss : List (List Str)) : A → Bool
  | .non => true
  | .bl _ => true
  | .int _ => true
  | .str _ => true
  | .kls _ => true
  | .tup xs => avoidL2 l d nss xs
  | .ins _ ns xs => !nss.contains ns && avoidL2 l d nss xs
  | .lst xs => l && avoidL2 l d nss xs
  | .dK _ xs => d && avoidL2 l d nss xs
  | .dT _ xs => d && avoidL2 l d nss xs
def avoidL2 (l d : Bool) (nss : List (List Str)) : List A → Bool
  | [] => true
  | x :: xs => avoid2 l d nss x && avoidL2 l d nss xs
end
def avoidF (l d : Bool) (nss : List (List Str)) : Fl → Bool
  | .fz a => avoid2 l d nss a
  | .lst xs => avoidL2 l d nss xs
  | .dK _ xs => avoidL2 l d nss xs
  | .dT _ xs => avoidL2 l d nss xs
def Fl.isLs : Fl → Bool
  | .lst _ => true
  | _ => false
def Fl.isDc : Fl → Bool
  | .dK _ _ => true
  | .dT _ _ => true
  | _ => false
def O.hasL : O → Bool
  | .fl f => f.isLs
  | .ins _ _ fs => fs.any Fl.isLs
  | .un => false
def O.hasD : O → Bool
  | .fl f => f.isDc
  | .ins _ _ fs => fs.any Fl.isDc
  | .un => false
/-- lists, dicts may stand in a result: none is lent -/
def freeL (env : Env) (is : List Nat) : Bool := is.all fun i => match env[i]? with
  | some o => !o.hasL
  | none => true
def freeD (env : Env) (is : List Nat) : Bool := is.all fun i => match env[i]? with
  | some o => !o.hasD
  | none => true
def lendB (l d : Bool) (nss : List (List Str)) (e : Env) : O → Option (R × Env)
  | .fl (.fz a) => if avoid2 l d nss a then some (.fz a, e) else none
  | .fl f => if avoidF l d nss f then some (.ow (.fl f), e) else none
  | .ins c ns fs => if fs.all (avoidF l d nss) then some (.ow (.ins c ns fs), e) else none
  | .un => none
def lendH (f : GF) (rs : List R) (env : Env) : Option (R × Env) := (vws env rs).bind fun as => (f (as.map fun a => .fl (.fz a))).bind fun q => lendB (freeL env (plIdx rs)) (freeD env (plIdx rs)) (nssOf env (plIdx rs)) env q.1
def gCallB (f : GF) (ds : List A) (g : Env → Option (List R × Env)) : G := fun env => (g env).bind fun p => lendH f (p.1 ++ ds.map .fz) p.2
def gMethB (c : Nat) (m : Str) (f : GF) (ds : List A) (go : G) (g : Env → Option (List R × Env)) : G := fun env => (go env).bind fun p => if p.1.isPf || p.1.tmp.isOw then none else
  (p.1.tmp.vw p.2).bind fun a => if insOf c m a then (g p.2).bind fun q => lendH f (p.1.tmp :: (q.1 ++ ds.map .fz)) q.2 else none
section
variable {cl : Nat → Addr} {kp : List Nat} {τ σ : L2.St} {F F' H H' : Hp} {fp : Nat → Addr → Prop} {env : Env} {S L : Addr → Prop} {K : PySem.W.Frag} {Eh : XK} {l d : Bool} {nss : List (List Str)}
def Cell2 (l d : Bool) (nss : List (List Str)) (L : Addr → Prop) (H : Hp) (p : Addr) : Prop := (l = false ∧ ∃ vs, H p = some (.lst vs)) ∨ (d = false ∧ ∃ k, H p = some (.dK k)) ∨ (d = false ∧ ∃ k, H p = some (.dT k)) ∨ (∃ C dx ns vs, H p = some (.ins C dx (ns.zip vs)) ∧ ns ∈ nss ∧ ns.length = vs.length) ∨ ∃ q, L q ∧ H p = some (.own q)
theorem Cell2.no {p : Addr} {u : HO} (h : Cell2 l d nss L F p) (e : F p = some u) : (l = false ∧ ∃ vs, u = .lst vs) ∨ (d = false ∧ ∃ k, u = .dK k) ∨ (d = false ∧ ∃ k, u = .dT k) ∨ (∃ C dx ns vs, u = .ins C dx (ns.zip vs) ∧ ns ∈ nss ∧ ns.length = vs.length) ∨ ∃ q, L q ∧ u = .own q := by
  rcases h with ⟨a, vs, z⟩ | ⟨a, k, z⟩ | ⟨a, k, z⟩ | ⟨C, dx, ns, vs, z, m, ly⟩ | ⟨q, lq, z⟩ <;> rw [e] at z <;> injection z with z <;> subst z
  · exact .inl ⟨a, vs, rfl⟩
  · exact .inr (.inl ⟨a, k, rfl⟩)
  · exact .inr (.inr (.inl ⟨a, k, rfl⟩))
  · exact .inr (.inr (.inr (.inl ⟨C, dx, ns, vs, rfl, m, ly⟩)))
  · exact .inr (.inr (.inr (.inr ⟨q, lq, rfl⟩)))
end
end Dl
namespace Dl
open PySem PySem.Spec L2
/-! ### a dict that is changed later is lent to one statement: to a loop over it -/
def O.noD : O → Bool
  | .un => true
  | .fl (.fz a) => avoid2 true false [] a
  | .fl f => avoidF true false [] f
  | .ins _ _ fs => fs.all (avoidF true false [])
def Fo.noD : Fo → Bool
  | .rt o => o.noD
  | .er _ => false
  | _ => true
section
variable {cl : Nat → Addr} {kp : List Nat} {τ σ : L2.St} {F F' H H' : Hp} {fp : Nat → Addr → Prop} {env : Env} {S L : Addr → Prop} {K : PySem.W.Frag} {Eh : XK} {t : TS} {g : GS}
theorem Rs.self (I : Rs cl kp τ F H fp env σ) (kp' : List Nat) : Rs cl kp' σ F H fp env σ := ⟨I.len, I.slot, I.dis, I.sep, I.dom, I.le, fun _ _ => rfl, rfl⟩
theorem Rs.ret {kp' : List Nat} {σ' : L2.St} (I : Rs cl kp τ F H fp env σ) {env' : Env} {fp' : Nat → Addr → Prop} (I' : Rs cl kp' σ F' H' fp' env' σ') (s : ∀ j ∈ kp, j ∈ kp') : Rs cl kp τ F' H' fp' env' σ' := ⟨I'.len, I'.slot, I'.dis, I'.sep, I'.dom, I'.le, fun j m => (I'.pro j (s j m)).trans (I.pro j m), I'.tl.trans I.tl⟩
end
end Dl
namespace L2
open PySem PySem.Spec
/-! ### a list of whole numbers below another one; a text several times -/
variable {X : Cx}
theorem isL {h : Heap} {a : Addr} {its : Array Value} (p : PlainL h a its) : h.IsList a its := by
  obtain ⟨o, n, e, c, _, d⟩ := p
  exact ⟨o, e, c, n, d⟩
/-! d == {} -/
/-! a text, two to a thousand times -/
end L2
namespace Dl
open PySem PySem.Spec L2
def fEqDk (a b : A) : Option A := match a, b with
  | .dK ks _, .dK [] [] => some (.bl ks.isEmpty)
  | _, _ => none
section
variable {cl : Nat → Addr}
end
end Dl
namespace Dl
open PySem PySem.Spec L2 PyProof.Rows
/-! ### the text of data, where none is being made -/
section
variable {X : Cx}
def rStrD (K : PySem.W.Frag) : List V → Hp → VK → Prop := fun xs H Q => ∃ a d, xs = [.ref a] ∧ Dp K H (.ref a) d ∧ d.showable = true ∧ d.hasDict = false ∧ d.depth ≤ 60 ∧ d.shown.length ≤ sizeLine ∧ Q (.str d.shown) H
theorem call_strD (hg : X.A.guards = some []) (hu : X.A.units + 64 < cLine) : CallR X (.type "str") (rStrD X.K) := by
  intro pins s σ H xs us Q I r h
  obtain ⟨a, d, rfl, hd, hs, hn, hp, hz, q⟩ := h
  obtain ⟨u, rfl, ru⟩ := vals1 r
  cases (show u = Value.ref a from ru)
  obtain ⟨as, rd⟩ := Dp.reads I d _ _ hd rfl
  refine str_of_reads rd hs (fun z => by rw [hn] at z; cases z) hg (by omega) (fun b o e => e) (fun h' u tk keep => ?_) hz
  exact ⟨.str d.shown, H, I.kept (h' := h') (t' := tk) keep, ⟨u, rfl⟩, q⟩
end
/-! ### a def's promise where no text is being made -/
structure FnG (P : Program) (w : World) (K : PySem.W.Frag) (mg : Str → Option Value) (base : Heap) (k : Nat) (f : Addr) (fd : FuncData) (ps : List Str) (sp : Sp) : Prop where
  len : ∀ vs H Q E, sp vs H Q E → vs.length = ps.length
  go : ∀ (A : Around) (outer : List PySem.Env) (s : Shared) (H : Hp) (args : Args) (us : List Value) (vs : List V) (Q : VK) (E : XK), A.guards = some [] → Room k A → Env0 P w K mg base A outer s H → BindsTo s fd args (ps.zip us) → Vals vs us → sp vs H Q E →
    codeAny (model P w) A (.call (.ref f) args) (CR L2.CX0 outer P w H s Q E) s
section
variable {X : Cx} {k : Nat} {f : Addr} {fd : FuncData} {ps : List Str} {sp : Sp} {E : XK} {x : Str} {p pos : Pos} {e : Expr} {es : List Expr} {t : TA} {ds : List Value} {dvs : List V}
theorem pe_callG (F : FnG X.prog X.w X.K X.mg X.base k f fd ps sp) (hgd : X.A.guards = some []) (hr : Room k X.A) (hg : Gl X x) (hm : X.mg x = some (.ref f)) (hk : PySem.W.keepIn X.K (.ref f) = true) (hb : Binds X.K fd ps [])
    (ha : PA X (e :: es) t) (hdb : (x == ("__debug__" : Str)) = false := by decide) (he : starEach (e :: es) X.env = (false, eval e X.env) :: starEach es X.env := by rfl) (hpl : (backTo pos (starEach es X.env)).any (·.1) = false := by rfl) :
    PE X (.Call (.Name x p) (e :: es) [] pos) (tCall sp [] L2.E0 t) := ⟨fun pins s σ H Q I h => by
  refine wpAny_Call_Name_kw (ld_glob I hg hm ?_ hdb)
  refine PySem.W.callWith_K (h₀ := X.base) I.ok.mod.kin hk ?_ he hpl
  refine thn (ha.run pos pins s σ H _ I h) fun us s1 ⟨vs, H1, I1, r, q⟩ => ⟨I1.kIn, ?_⟩
  have q : sp (vs ++ []) H1 Q L2.E0 := q
  rw [List.append_nil] at q
  show wpAny (model X.prog X.w) X.A (call (.ref f) us) (EP X pins σ Q) X.xe s1
  have bl := hb s1 us I1.kIn (by rw [List.append_nil, ← r.length]; exact F.len _ _ _ _ q)
  rw [List.append_nil] at bl
  refine wpAny_call (codeAny_mono (F.go X.A X.stack s1 H1 ⟨us, []⟩ us vs Q L2.E0 hgd hr I1.env0 bl r q) fun r' s' hq => ?_)
  match r', hq with
  | .error e', hq => exact hq.elim
  | .ok (.ret u), hq => exact I1.after hq
  | .ok .next, hq => exact hq.elim
  | .ok .brk, hq => exact hq.elim
  | .ok .cont, hq => exact hq.elim⟩
end
section
variable {P : Program} {w : World} {K : PySem.W.Frag} {mg : Str → Option Value} {base : Heap}
theorem _root_.L2.Fun.okG0 {x qual : Str} {st : Stmt} {f : Addr} {fd : FuncData} {N ps : List Str} {k : Nat} {sp : Sp} (F : Fun K x qual st f fd) (S : FnScope N ps (defScope st)) (len : ∀ vs H Q E, sp vs H Q E → vs.length = ps.length)
    (hbody : ∀ (cdv : Value) (A : Around) (outer : List PySem.Env) (s : Shared) (H : Hp) (vs : List V) (Q : VK) (E : XK), A.guards = some [] → Room k (A.deeper (envOfC qual (defScope st) s.heap.objs.size f cdv)) → sp vs H Q E →
      ∃ t, PSs (cxOf L2.CX0 P w K mg base N qual (defScope st) f cdv A outer s H E).nox (defBody st) t ∧ t { nx := fun _ H' => Q .non H', rt := Q } (L2.start N vs) H) : FnG P w K mg base (k + 1) f fd ps sp := by
  obtain ⟨oc, od, kV, doc, pm, an, cdv, ct, osl, rfl, lk, hcd⟩ := F.ex
  refine ⟨len, fun A outer s H args us vs Q E hgd hr e0 hb r hsp => ?_⟩
  have KX : K.In s.heap := e0.mod.kin.keeps fun b o e => (e0.bs b o e).1
  have lim : s.heap.NoLimit := e0.mod.nolimit.keeps fun b o e => (e0.bs b o e).1
  refine codeAny_call_function hr.depth (KX _ _ lk) rfl S.co S.gen rfl (PySem.W.codeRec_of KX hcd) (hb _ _ _ _ ?_)
  refine wpAny_newFunctionEnv_cells S.kind (fun y hy => ?_) fun env he s1 x => ?_
  · rcases S.par y.1 (List.of_mem_zip (show (y.1, y.2) ∈ ps.zip us from hy)).1 with q | q
    · exact .inl q
    · exact .inr ⟨q, PySem.W.cellsFrom_some _ _ _ (.inl q)⟩
  subst he
  refine ⟨lim.keeps x.toInCall.keep, codeAny_func ?_⟩
  obtain ⟨t, ht, hq⟩ := hbody cdv A outer s H vs Q E hgd (hr.deeper _) hsp
  have I := inv_start (CX := L2.CX0) (E := E) S hr.hd e0 (len _ _ _ _ hsp) r x
  refine wpAny_mono (ht.nox.run [] s1 (L2.start N vs) H _ I hq) (fun fl s' hs => ?_) fun e s' hs => hs
  match fl, hs with
  | .ret u, hs =>
    obtain ⟨v, σ', H', J, rv, q⟩ := hs
    exact ⟨v, H', J.os, J.bare, J.base, J.hok, rv, q⟩
  | .next, hs =>
    obtain ⟨σ', H', J, q⟩ := hs
    exact ⟨.non, H', J.os, J.bare, J.base, J.hok, rfl, q⟩
  | .brk, hs =>
    obtain ⟨_, _, _, q⟩ := hs
    exact q.elim
  | .cont, hs =>
    obtain ⟨_, _, _, q⟩ := hs
    exact q.elim
end
end Dl
namespace Dl
open PySem PySem.Spec L2 PyProof.Rows
section
variable {P : Program} {w : World} {K : PySem.W.Frag} {mg : Str → Option Value} {base : Heap} {cl : Nat → Addr} {Eh : XK}
/-! ### defs where no text is being made -/
theorem _root_.L2.Fun.okDG {x qual : Str} {st : Stmt} {f : Addr} {fd : FuncData} {N ps : List Str} {k : Nat} (F : Fun K x qual st f fd) (S : FnScope N ps (defScope st)) (ra kp : List Nat) (m : Nat) (g : GS)
    (hN : N.length = ps.length + m) (hk : ((List.range ps.length).all fun i => ra.contains i || kp.contains i) = true)
    (body : ∀ (cdv : Value) (A : Around) (outer : List PySem.Env) (s : Shared) (H : Hp) (E : XK), A.guards = some [] → Room k (A.deeper (envOfC qual (defScope st) s.heap.objs.size f cdv)) →
      ∃ t, PSs (cxOf L2.CX0 P w K mg base N qual (defScope st) f cdv A outer s H E).nox (defBody st) t ∧ SS cl kp E t g) : FnG P w K mg base (k + 1) f fd ps (spD cl (fnD ra ps.length m g)) := by
  refine F.okG0 S (fun vs H Q E h => ?_) (fun cdv A outer s H vs Q E hgd hr h => ?_)
  · obtain ⟨F, fp, os, res, os', I, e, _⟩ := h
    obtain ⟨l, _⟩ := fnD_inv e
    have := I.len
    rw [List.length_map] at this
    omega
  · obtain ⟨t, ht, hs⟩ := body cdv A outer s H E hgd hr
    refine ⟨t, ht, body_ok hN (fun i hi hr => ?_) hs h⟩
    have := List.all_eq_true.mp hk i (List.mem_range.mpr hi)
    rcases Bool.or_eq_true_iff.mp this with z | z
    · exact (hr (by simpa using z)).elim
    · simpa using z
theorem _root_.L2.Fun.okLawG {x qual : Str} {st : Stmt} {f : Addr} {fd : FuncData} {N : List Str} {k : Nat} {ps : List Str} (F : Fun K x qual st f fd) (S : FnScope N ps (defScope st)) (hp : ps.length = 1) (m : Nat) (g : GS)
    (hN : N.length = m + 2) (hg : ∀ cs : List Int, (∀ c ∈ cs, 0 ≤ c) → ∃ env', g (.un :: .fl (.lst [.lst (cs.map A.int), .int 0, .int 0, .int 0]) :: List.replicate m .un) = some (.rt (.fl (.fz (.bl true))), env'))
    (body : ∀ (cdv : Value) (A : Around) (outer : List PySem.Env) (s : Shared) (H : Hp) (E : XK), A.guards = some [] → Room k (A.deeper (envOfC qual (defScope st) s.heap.objs.size f cdv)) →
      ∃ t, PSs (cxOf L2.CX0 P w K mg base N qual (defScope st) f cdv A outer s H E).nox (defBody st) (tSeq (tAsg (tCall (spBox K) [] E0 (tCons (tVar 0) tNil)) (gName 1)) t) ∧ SS cl [0] E t g) : FnG P w K mg base (k + 1) f fd ps (spLaw K) := by
  refine F.okG0 S (fun vs H Q E h => ?_) (fun cdv A outer s H vs Q E hgd hr h => ?_)
  · obtain ⟨a, ns, rfl, _⟩ := h
    exact hp.symm
  · obtain ⟨t, ht, hs⟩ := body cdv A outer s H E hgd hr
    exact ⟨_, ht, law_core m g hN hg hs h⟩
/-! ### the law is called where no text is being made -/
theorem law_goG {mb : Str → Option Value} {k : Nat} {fa a : Addr} {fd : FuncData} {x : Str} {sp : Sp} {s₁ : Shared} {vs : List Value} {ns : List Int}
    (KX : K.In s₁.heap) (hns : s₁.heap.Ns mainGlobals mg) (hb : s₁.heap.Ns builtinsNs mb) (hbb : ∀ x : Str, x ≠ "__name__" → mb x = bootBuiltins x) (hlim : s₁.heap.NoLimit) (hg : s₁.gens = #[])
    (ha : s₁.heap.get? a = some { cls := .type "list", data := .seq vs.toArray }) (hi : IntsAre vs ns) (hl : ns.length ≤ sizeLine) (hr : Room k callerA)
    (F : ∀ base : Heap, K.In base → base.Ns mainGlobals mg → FnG P w K mg base k fa fd [x] sp) (hbind : ∀ (s : Shared) (u : Value), BindsTo s fd ⟨[u], []⟩ [(x, u)])
    (hsp : ∀ H : Hp, Only H → SqL K H a (ns.map V.int) → sp [.ref a] H (fun v _ => v = .bl true) fun _ _ _ => False) :
    codeAny (model P w) callerA (.call (.ref fa) ⟨[.ref a], []⟩) (fun r s' => r = .ok (.ret (.bool true)) ∧ OldK s₁.heap s'.heap ∧ s'.os = s₁.os ∧ AllBare s'.gens) s₁ := by
  -- the heap that is told: the script at most
  suffices key : ∀ H : Hp, (∀ b u, H b = some u → b = a ∧ K.lookup a = none ∧ u = .frz { cls := .type "list", data := .seq vs.toArray } (.lst (ns.map V.int))) → SqL K H a (ns.map V.int) → HOk P w H s₁.heap →
      codeAny (model P w) callerA (.call (.ref fa) ⟨[.ref a], []⟩) (fun r s' => r = .ok (.ret (.bool true)) ∧ OldK s₁.heap s'.heap ∧ s'.os = s₁.os ∧ AllBare s'.gens) s₁ by
    cases hk : K.lookup a with
    | some o =>
      have e := (KX a o hk).symm.trans ha
      cases e
      refine key (fun _ => none) (fun b u z => by cases z) (.inr ⟨_, vs.toArray, _, hk, rfl, rfl, rfl, ?_, ?_⟩) fun b u z => by cases z
      · rw [List.size_toArray, hi.length]; exact hl
      · simpa using vals_ints hi
    | none =>
      refine key (fun b => if b = a then some (.frz { cls := .type "list", data := .seq vs.toArray } (.lst (ns.map V.int))) else none) (fun b u z => ?_) (.inl (.inr ⟨_, if_pos rfl⟩)) fun b u z => ?_
      · by_cases q : b = a
        · have z := (if_pos q).symm.trans z
          cases z
          exact ⟨q, hk, rfl⟩
        · have z := (if_neg q).symm.trans z
          cases z
      · by_cases q : b = a
        · have z := (if_pos q).symm.trans z
          cases z
          rw [q]
          exact ⟨ha, by rw [List.length_map]; exact hl, vs, _, vals_ints hi, ha⟩
        · have z := (if_neg q).symm.trans z
          cases z
  intro H hH hS hok
  have none_at : ∀ {b : Addr}, b ≠ a → H b = none := fun {b} ne => by
    cases q : H b with
    | none => rfl
    | some u => exact (ne (hH b u q).1).elim
  have none_K : ∀ {b : Addr} {o : Obj}, K.lookup b = some o → H b = none := fun {b o} e => by
    cases q : H b with
    | none => rfl
    | some u =>
      obtain ⟨rfl, z, _⟩ := hH b u q
      rw [z] at e; cases e
  have hold : ∀ {b : Addr} {o : Obj}, s₁.heap.get? b = some o → H b = none → (hidT s₁.heap H).get? b = some o := fun e n => hidT_get e n
  have isns : ∀ {b : Addr} {m : Str → Option Value}, s₁.heap.Ns b m → (hidT s₁.heap H).Ns b m := fun {b m} ⟨o, es, ep, e, d, r⟩ => by
    refine ⟨o, es, ep, hold e (none_at fun z => ?_), d, r⟩
    subst z
    rw [ha] at e
    cases e
    have d' : Data.seq vs.toArray _ = Data.dict es ep := d
    cases d'
  have kin : K.In (hidT s₁.heap H) := fun b o e => hold (KX b o e) (none_K e)
  obtain ⟨mc, l1, l2⟩ := hlim
  have e0 : Env0 P w K mg (hidT s₁.heap H) callerA [] s₁ H := ⟨rfl, ⟨kin, isns hns, ⟨mb, isns hb, hbb⟩, mc, isns l1, l2⟩, fun b o e => of_hidT e, Nat.le_of_eq (hidT_size _ _), trivial, fun b z => (nomatch z), hok, .of_eq hg⟩
  have only : Only H := fun b => by
    cases q : H b with
    | none => exact .inl rfl
    | some u =>
      obtain ⟨_, _, z⟩ := hH b u q
      rw [z]
      exact .inr ⟨_, _, rfl⟩
  have run := (F _ kin (isns hns)).go callerA [] s₁ H ⟨[.ref a], []⟩ [.ref a] [.ref a] (fun v _ => v = .bl true) (fun _ _ _ => False) rfl hr e0 (hbind s₁ (.ref a)) (.cons rfl .nil) (hsp H only hS)
  refine codeAny_mono run fun r s' h => ?_
  match r, h with
  | .error e, h => exact h.elim
  | .ok .next, h => exact h.elim
  | .ok .brk, h => exact h.elim
  | .ok .cont, h => exact h.elim
  | .ok (.ret u), h =>
    obtain ⟨v, H', os, bare, un, hok', r', q⟩ := h
    have q : v = .bl true := q
    subst q
    cases (show u = Value.bool true from r')
    refine ⟨rfl, OldK.of_keep fun b o e => ?_, os, bare⟩
    cases q : H b with
    | none => exact un.keep b o e q (by intro z; cases z) (by simp)
    | some u =>
      obtain ⟨_, _, z⟩ := hH b u q
      rw [z] at q
      have e1 := (hok b _ q).1
      have e2 := (hok' b _ (un.frzs b _ _ q)).1
      rw [e] at e1; cases e1
      exact e2
end
theorem walk_ofG {l : PySem.W.OpenLaw} {n k : Nat} {q : Program} {loose : List Str} {XP : (Str → Option Value) → Heap → Prop} {YP : World → Heap → Prop} {d : DefRec} {x : Str}
    (hn : l.most = some n) (hn2 : n ≤ sizeLine) (hdf : d.params.defaults = []) (hr : Room k callerA)
    (F : ∀ (w : World) (mg : Str → Option Value) (fa : Addr) (h : Heap), YP w h → h.Ns mainGlobals mg → mg d.name = some (.ref fa) →
      ∃ (K : PySem.W.Frag) (fd : FuncData) (sp : Sp), K.In h ∧ (∀ (s : Shared) (u : Value), BindsTo s fd ⟨[u], []⟩ [(x, u)]) ∧
        (∀ (H : Hp) (a : Addr) (ns : List Int), ns.length ≤ n → Only H → SqL K H a (ns.map V.int) → sp [.ref a] H (fun v _ => v = .bl true) fun _ _ _ => False) ∧
        ∀ base : Heap, K.In base → base.Ns mainGlobals mg → FnG l.prog w K mg base k fa fd [x] sp) :
    PySem.W.WalkO q loose XP YP l.row.toRowW d [] (fun f vs => PySem.call f vs) :=
  Att.attach_call hn hdf fun w s₀ s₁ mg mb fa o pm cd doc a vs ns G Y ho hd hcd hmg hobj hints hlen hg => by
    obtain ⟨K, fd, sp, KX, hb, hsp, hF⟩ := F w mg fa _ Y G.T.g hmg
    exact law_goG KX G.T.g G.T.b G.T.builtins G.T.nolimit hg hobj hints (Nat.le_trans hlen hn2) hr hF hb fun H hO hS => hsp H a ns hlen hO hS
/-! ### the text of data -/
def fStrD (a : A) : Option A := match a with
  | .lst _ => a.toD.bind fun d => if d.showable && (!d.hasDict && (decide (d.depth ≤ 60) && decide (d.shown.length ≤ sizeLine))) then some (.str d.shown) else none
  | .tup _ => a.toD.bind fun d => if d.showable && (!d.hasDict && (decide (d.depth ≤ 60) && decide (d.shown.length ≤ sizeLine))) then some (.str d.shown) else none
  | _ => none
section
variable {cl : Nat → Addr} {K : PySem.W.Frag}
theorem bi_strD : BI cl (rStrD K) fStrD := by
  intro F H x a c Q s ra hf k
  have core : ∀ p, x = .ref p → (a.toD.bind fun d => if d.showable && (!d.hasDict && (decide (d.depth ≤ 60) && decide (d.shown.length ≤ sizeLine))) then some (A.str d.shown) else none) = some c → rStrD K [x] H Q := fun p e hf => by
    obtain ⟨d, hd, hf⟩ := Option.bind_eq_some_iff.mp hf
    split at hf
    · rename_i z
      cases hf
      obtain ⟨z1, z2⟩ := and_t z
      obtain ⟨z2, z3⟩ := and_t z2
      obtain ⟨z3, z4⟩ := and_t z3
      subst e
      exact ⟨p, d, rfl, (ra.rp s).dp hd, z1, by simpa using z2, of_decide_eq_true z3, of_decide_eq_true z4, k _ rfl⟩
    · cases hf
  cases a with
  | lst xs => obtain ⟨p, vs, e, _⟩ := ra; exact core p e hf
  | tup xs => obtain ⟨p, vs, e, _⟩ := ra; exact core p e hf
  | _ => cases hf
end
end Dl
namespace Dl
open PySem PySem.Spec L2
section
variable {cl : Nat → Addr} {kp : List Nat} {τ σ : L2.St} {F F' H H' : Hp} {fp : Nat → Addr → Prop} {env : Env} {S : Addr → Prop} {Eh : XK} {K : PySem.W.Frag}
/-! ### slices whose parts act -/
theorem tmp_pf {r0 : R} (h : r0.isPf = false) : r0.tmp.isPf = false := by
  cases r0 with
  | ow o => show (match o.vw with | some a => R.fz a | none => .ow o).isPf = false; cases o.vw <;> rfl
  | pf i f => cases h
  | _ => rfl
/-! ### a chain of which the ends act -/
/-! ### a, b = e, f: whatever they are -/
end
end Dl
namespace Dl
open PySem PySem.Spec L2
/-! ### z[::-1], a text -/
section
variable {X : Cx}
end
section
variable {cl : Nat → Addr} {kp : List Nat} {τ σ : L2.St} {F F' H H' : Hp} {fp : Nat → Addr → Prop} {env : Env} {S : Addr → Prop} {Eh : XK} {K : PySem.W.Frag}
/-! ### {k: v, ..} -/
def gPs0 : Env → Option (List (A × A) × Env) := fun env => some ([], env)
def gPs (gk gv : Env → Option (A × Env)) (gr : Env → Option (List (A × A) × Env)) : Env → Option (List (A × A) × Env) := fun env => (gk env).bind fun p => (gv p.2).bind fun q => (gr q.2).map fun r => ((p.1, q.1) :: r.1, r.2)
def SPs (cl : Nat → Addr) (kp : List Nat) (trs : List (TE × TE)) (g : Env → Option (List (A × A) × Env)) : Prop :=
  ∀ ⦃τ : L2.St⦄ ⦃F H : Hp⦄ ⦃fp : Nat → Addr → Prop⦄ ⦃env : Env⦄ ⦃σ : L2.St⦄ ⦃Q : List (V × V) → Hp → Prop⦄ ⦃ps : List (A × A)⦄ ⦃env' : Env⦄, Rs cl kp τ F H fp env σ → g env = some (ps, env') →
    (∀ F' H' fp' vs, Rs cl kp τ F' H' fp' env' σ → Go F H (U fp) F' H' (U fp') → RpL cl F' (ps.map Prod.fst) (vs.map Prod.fst) → RpL cl F' (ps.map Prod.snd) (vs.map Prod.snd) → Q vs H') → tPairs trs σ H Q
theorem sps_nil : SPs cl kp [] gPs0 := by
  intro τ F H fp env σ Q ps env' I e k
  cases e
  exact k F H fp [] I Go.refl rfl rfl
theorem sps_cons {pk pv : Bool} {tk tv : TE} {trs : List (TE × TE)} {gk gv : Env → Option (A × Env)} {gr : Env → Option (List (A × A) × Env)} (hk : SF cl kp pk tk gk) (hv : SF cl kp pv tv gv) (hr : SPs cl kp trs gr) : SPs cl kp ((tk, tv) :: trs) (gPs gk gv gr) := by
  intro τ F H fp env σ Q ps env' I e k
  obtain ⟨⟨a, e1⟩, h1, e⟩ := Option.bind_eq_some_iff.mp e
  obtain ⟨⟨b, e2⟩, h2, e⟩ := Option.bind_eq_some_iff.mp e
  obtain ⟨⟨r, e3⟩, h3, e⟩ := Option.map_eq_some_iff.mp e
  cases e
  refine hk I h1 fun F1 H1 fp1 x I1 go1 rx _ => hv I1 h2 fun F2 H2 fp2 y I2 go2 ry _ => hr I2 h3 fun F3 H3 fp3 vs I3 go3 r1 r2 => ?_
  exact k F3 H3 fp3 ((x, y) :: vs) I3 ((go1.trans go2).trans go3) ⟨x, _, rfl, Rp.same (go2.sF.trans go3.sF) rx, r1⟩ ⟨y, _, rfl, Rp.same go3.sF ry, r2⟩
def dispK (ps : List (A × A)) : Option (Fl) := (keysA (ps.map Prod.fst)).bind fun ks => if ks.Nodup ∧ ps.length ≤ 15 then some (.dK ks (ps.map Prod.snd)) else none
def gDisp (g : Env → Option (List (A × A) × Env)) : G := fun env => (g env).bind fun p => (dispK p.1).map fun d => (.ow (.fl d), p.2)
theorem mergeK_new : ∀ {more kvs : List (Key × V)}, ((kvs ++ more).map Prod.fst).Nodup → mergeK kvs more = kvs ++ more
  | [], kvs, _ => by rw [List.append_nil]; rfl
  | p :: r, kvs, h => by
    have hp : putK kvs p.1 p.2 = kvs ++ [p] := by
      have : ∀ (l : List (Key × V)), p.1 ∉ l.map Prod.fst → putK l p.1 p.2 = l ++ [p] := fun l n => by
        unfold putK
        rw [if_neg]
        intro z
        obtain ⟨q, mq, eq⟩ := List.any_eq_true.mp z
        exact n (List.mem_map.mpr ⟨q, mq, of_decide_eq_true eq⟩)
      refine this kvs fun m => ?_
      rw [List.map_append, List.nodup_append] at h
      exact h.2.2 _ m p.1 (by rw [List.map_cons]; exact List.mem_cons_self) rfl
    show mergeK (putK kvs p.1 p.2) r = _
    rw [hp, mergeK_new (by rw [List.append_assoc]; exact h), List.append_assoc]; rfl
theorem pairs_back : ∀ (vs : List (V × V)) (ks : List Key), vs.map Prod.fst = ks.map kV → ks.length = vs.length → vs = (ks.zip (vs.map Prod.snd)).map fun kv => (kV kv.1, kv.2)
  | [], ks, _, _ => by cases ks <;> rfl
  | v :: vs, [], _, l => by simp at l
  | v :: vs, k0 :: ks, ek, l => by
    simp only [List.map_cons, List.cons.injEq] at ek
    rw [List.map_cons, List.zip_cons_cons, List.map_cons, ← pairs_back vs ks ek.2 (by simpa using l), ← ek.1]
theorem se_disp {trs : List (TE × TE)} {g : Env → Option (List (A × A) × Env)} (h : SPs cl kp trs g) : SE cl kp false (tDisp trs) (gDisp g) := by
  intro τ F H fp env σ Q r env' I e k
  obtain ⟨⟨ps, e1⟩, h1, e⟩ := Option.bind_eq_some_iff.mp e
  obtain ⟨d, hd, e⟩ := Option.map_eq_some_iff.mp e
  cases e
  obtain ⟨ks, hk, hd⟩ := Option.bind_eq_some_iff.mp hd
  split at hd
  case isFalse => cases hd
  rename_i nd
  cases hd
  intro p hp
  have fD := fnone I.le hp
  have uD : ¬ U fp p := fun ⟨i, z⟩ => (I.dom i p z).ne hp
  have I0 := I.laid (o := .dK []) hp
  refine h I0 h1 fun F2 H2 fp2 vs I2 go2 r1 r2 => ?_
  obtain ⟨ap, hd2⟩ := Apart.go (D := p) (o := .dK []) ⟨uD, fD⟩ upd_same rfl go2
  have ek := keysA_kV r1 hk
  have lk : ks.length = vs.length := by
    have := congrArg List.length ek
    simpa using this.symm
  have ev : vs = (ks.zip (vs.map Prod.snd)).map fun kv => (kV kv.1, kv.2) := pairs_back vs ks ek lk
  have lz : (ks.zip (vs.map Prod.snd)).length = vs.length := by simp [lk]
  have lp : ps.length = vs.length := by have := r2.length; simpa using this.symm
  refine ⟨hd2, ks.zip (vs.map Prod.snd), ev, by rw [lz, ← lp]; exact nd.2, ?_⟩
  have em : mergeK [] (ks.zip (vs.map Prod.snd)) = ks.zip (vs.map Prod.snd) := mergeK_new (by
    rw [List.nil_append, List.map_fst_zip (by simp [lk])]
    exact nd.1)
  rw [em]
  have g0 : Go F H (fun q => U fp q ∨ q = p) F (upd H p (.dK [])) (fun q => U fp q ∨ q = p) := ⟨Same.refl _, fun q u n e => by rw [upd_ne (fun z => n (.inr z))]; exact e, fun p a e => (a e).elim, fun p h => .inl h, fun p h => dom_upd h, fun p h => nt_upd rfl h⟩
  have g1 := (g0.trans (go2.join (D := p) (by rw [upd_same]; exact fun z => nomatch z))).apart (o := .dK (ks.zip (vs.map Prod.snd))) rfl
  refine k F2 _ fp2 (fun q => q = p) _ (I2.apart rfl ap.nU ap.nF) ?_ ⟨⟨p, vs.map Prod.snd, rfl, rfl, upd_same, by rw [lk]; simp [lp], r2⟩, fun q e => by rw [e]; exact ⟨ap.nF, Nt.new rfl, ap.nU⟩⟩ fun z => nomatch z
  refine ⟨g1.sF, fun q u n e => ?_, fun q a e => ?_, fun q h => ?_, g1.dom, g1.ntd⟩
  · exact g1.keep q u (fun z => z.elim n fun z => by rw [z, hp] at e; cases e) e
  · rcases g1.new q a e with z | (z | z) | z
    · exact .inl z
    · exact .inr (.inl z)
    · exact .inl (by rw [z]; exact hp)
    · exact .inr (.inr z)
  · rcases g1.fpn q h with z | z
    · exact z.elim .inl fun z => .inr (by rw [z]; exact hp)
    · exact .inr z
/-! ### o(..), o an instance -/
end
end Dl
namespace Dl
open PySem PySem.Spec L2
/-! ### a field's list is changed: what is given leaves all cells as they are -/
section
variable (cl : Nat → Addr)
end
section
variable {cl : Nat → Addr} {kp : List Nat} {τ σ : L2.St} {F F' H H' : Hp} {fp : Nat → Addr → Prop} {env : Env} {S : Addr → Prop} {K : PySem.W.Frag} {Eh : XK}
def gPlcH (f : Fl → List A → Option (Fl × A)) (g : G) (ga : Env → Option (List A × Env)) : G := fun env => (g env).bind fun p => (getP p.2 p.1).bind fun f0 => if f0.isL then
  (ga p.2).bind fun q => (getP q.2 p.1).bind fun fl => if fl.own then (f fl q.1).map fun z => (.fz z.2, putP q.2 p.1 z.1) else none
  else none
end
end Dl
namespace Dl
open PySem PySem.Spec L2
/-! ### errors out of makers, operands, arguments, tests -/
section
variable {cl : Nat → Addr} {kp : List Nat} {τ σ : L2.St} {F F' H H' : Hp} {fp : Nat → Addr → Prop} {env : Env} {S : Addr → Prop} {K : PySem.W.Frag} {Eh : XK}
def makeB (c : Nat) (b : BF) (rs : List R) (env : Env) : Option (Ev × Env) := (callB b (.pl env.length :: rs) (env ++ [.ins c [] []])).bind fun p => (p.2[env.length]?).map fun _ => (p.1, p.2.take env.length)
theorem make_bad {c : Nat} {b : BF} {rs : List R} {vs : List V} {er : Ev} {env' : Env} {Q : VK} (I1 : Rs cl kp τ F H fp env σ) (rr : RRs cl F σ rs vs) (e : makeB c b rs env = some (er, env'))
    (k : Lets cl kp Eh τ F H (U fp) env' σ er) {x dx : Addr} (nx : H x = none) (nd : H dx = none) (ne : dx ≠ x) :
    spB cl b (.ref x :: vs) (upd (upd H dx (.own x)) x (.ins (cl c) dx [])) Q Eh := by
  obtain ⟨⟨r0, e1⟩, h1, e⟩ := Option.bind_eq_some_iff.mp e
  obtain ⟨o, ho, e⟩ := Option.map_eq_some_iff.mp e
  cases e
  have hx : upd (upd H dx (.own x)) x (.ins (cl c) dx []) x = some (.ins (cl c) dx []) := upd_same
  have hdx : upd (upd H dx (.own x)) x (.ins (cl c) dx []) dx = some (.own x) := by rw [upd_ne ne, upd_same]
  have nd' : upd H dx (.own x) x = none := by rw [upd_ne ne.symm]; exact nx
  have J1 := (I1.laid (o := .own x) nd).laid (o := .ins (cl c) dx []) nd'
  have s1 : Same H (upd (upd H dx (.own x)) x (.ins (cl c) dx [])) := (same_new nd).trans (same_new nd')
  have fx := fnone I1.le nx
  have fd := fnone I1.le nd
  have ux : ¬ U fp x := fun ⟨i, z⟩ => (I1.dom i x z).ne nx
  have ud : ¬ U fp dx := fun ⟨i, z⟩ => (I1.dom i dx z).ne nd
  have J2 := J1.more (o := .ins c [] []) (v := .ref x) (S := fun p => p = x ∨ p = dx) ⟨x, dx, [], fun _ _ => False, rfl, .inl rfl, .inr rfl, hx, hdx, rfl, rfl, fun j f u hf => by simp at hf, fun _ _ z => z.elim, fun _ _ _ z => z.elim⟩ fun p hp => by
    rcases hp with rfl | rfl
    · exact ⟨fx, ⟨_, hx, rfl⟩, ux⟩
    · exact ⟨fd, ⟨_, hdx, rfl⟩, ud⟩
  have ls := I1.len
  have lt := I1.tl
  have rr2 : RRs cl F (σ ++ [some (V.ref x)]) (.pl env.length :: rs) (.ref x :: vs) := ⟨_, _, rfl, by rw [List.getElem?_append_right (by omega), ls]; simp, rr.more⟩
  refine callB_ok (env' := e1) (e := r0) J2 rr2 h1 fun F' H' fp' S cls d I' go ea nS => ?_
  have ho : e1[env.length]? = some o := ho
  obtain ⟨I2, _⟩ := Rs.less (n := env.length) ls (by omega) I' I1.pro ho
  have inU : ∀ p, U (fun i p => (i < env.length ∧ fp i p) ∨ (i = env.length ∧ (p = x ∨ p = dx))) p → U fp p ∨ H p = none := fun p ⟨i, z⟩ => z.elim (fun z => .inl ⟨i, z.2⟩) fun z => .inr (by rcases z.2 with rfl | rfl <;> assumption)
  have back : ∀ p, upd (upd H dx (.own x)) x (.ins (cl c) dx []) p = none → H p = none := fun p z => by
    cases q : H p with
    | none => rfl
    | some u => rw [s1 _ _ q] at z; cases z
  refine k F' H' _ S cls d I2 ⟨go.sF, fun p u n q => ?_, fun p a b => ?_, fun p h => ?_, fun p h => ?_, fun p ⟨u, a, b⟩ => go.ntd p ⟨u, s1 _ _ a, b⟩⟩ ea fun p s => ⟨(nS p s).1, (nS p s).2.1, fun ⟨i, z⟩ => (nS p s).2.2 ⟨i, z.2⟩⟩
  · refine go.keep p u (fun z => ?_) (s1 _ _ q)
    rcases inU p z with z | z
    · exact n z
    · rw [z] at q; cases q
  · rcases go.new p a b with z | z | ⟨vs', z⟩
    · exact .inl (back p z)
    · exact (inU p z).elim (fun z => .inr (.inl z)) .inl
    · refine .inr (.inr ⟨vs', ?_⟩)
      by_cases e1 : p = x
      · rw [e1, hx] at z; cases z
      · rw [upd_ne e1] at z
        by_cases e2 : p = dx
        · rw [e2, upd_same] at z; cases z
        · rw [upd_ne e2] at z; exact z
  · have : U fp' p ∨ S p := h.imp (fun ⟨i, z⟩ => ⟨i, z.2⟩) id
    rcases go.fpn p this with z | z
    · exact inU p z
    · exact .inr (back p z)
  · refine go.dom p ?_
    cases q : H p with
    | none => exact (h q).elim
    | some u => rw [s1 _ _ q]; exact fun z => nomatch z
def bMakeR (c : Nat) (b : BF) (ds : List A) (g : Env → Option (List R × Env)) : GB := fun env => (g env).bind fun p => makeB c b (p.1 ++ ds.map .fz) p.2
theorem se_makeRX {c : Nat} {f : GF} {b : BF} {ds : List A} {dvs : List V} {E : XK} {t : TA} {g : Env → Option (List R × Env)} (hd : scV ds = some dvs) (h : SR cl kp t g) : SE cl kp false (tMake (cl c) (spX cl f b) dvs E t) (gMakeR c f ds g) := by
  intro τ F H fp env σ Q r env' I e k
  obtain ⟨⟨rs, e1⟩, h1, e⟩ := Option.bind_eq_some_iff.mp e
  exact h I h1 fun F1 H1 fp1 vs I1 go1 rr x dx nx nd ne => .inl (make_ok I1 (rr.app hd) e (fun F' H' fp' S v I' go' r' => k F' H' fp' S v I' (go1.trans go') r' fun z => nomatch z) nx nd ne)
theorem be_makeR {c : Nat} {f : GF} {b : BF} {ds : List A} {dvs : List V} {t : TA} {g : Env → Option (List R × Env)} (hd : scV ds = some dvs) (h : SR cl kp t g) : BE cl kp Eh (tMake (cl c) (spX cl f b) dvs Eh t) (bMakeR c b ds g) := by
  intro τ F H fp env σ Q e env' I he k
  obtain ⟨⟨rs, e1⟩, h1, he⟩ := Option.bind_eq_some_iff.mp he
  exact h I h1 fun F1 H1 fp1 vs I1 go1 rr x dx nx nd ne => .inr (make_bad I1 (rr.app hd) he (k.go go1) nx nd ne)
def bMakeK (c : Nat) (b : BF) (n m : Nat) (pat : List Src) (g gk : Env → Option (List R × Env)) : GB := fun env => (g env).bind fun p => (gk p.2).bind fun q => if p.1.length = n ∧ q.1.length = m then (patR pat (.fz .non :: p.1) q.1).bind fun rs => makeB c b rs q.2 else none
/-! operands -/
def bAlt (a b : GB) : GB := fun env => match a env with
  | some p => some p
  | none => b env
def bSec (g : G) (b : GB) : GB := fun env => (g env).bind fun p => b p.2
/-! arguments -/
/-! statements -/
end
end Dl
namespace Dl
open PySem PySem.Spec L2
/-! ## list.index -/
def ixEq (d : PyData) (ds : List PyData) : Option Nat := if ds.findIdx (fun z => PyData.eqv z d) < ds.length then some (ds.findIdx fun z => PyData.eqv z d) else none
def pIndex : Fl → List A → Option (Fl × A)
  | .lst xs, [a] => a.toD.bind fun d => (A.toDL xs).bind fun ds => if SeqAt.shaped d && SeqAt.shaped (.list ds) then (ixEq d ds).map fun j => (.lst xs, .int (j : Nat)) else none
  | _, _ => none
section
variable {cl : Nat → Addr} {K : PySem.W.Frag}
end
end Dl
namespace Dg
open PySem PySem.Spec L2 Dl
def Db__law_take : GS :=
  (gSeq (gIfS (gB (gOp true fGt (gOp true fIxL (gV 0) (gK (.int 2))) (gK (.int 0)))) (gSeq (gAsg 2 (gOp true fMod (gUn fInt (gOp true fIxL (gV 0) (gK (.int 2)))) (gV 1)))
  (gSeq (gSetI true (gS true (gOp true fDiv (gOp true fIxL (gV 0) (gK (.int 2))) (gV 1))) (gV 0) (gK (.int 2)))
  (gRet 2 (gV 2)))) gSkip)
  (gSeq (gAsg 3 (gK (.int 0)))
  (gSeq (gIfS (gB (gOp true fLt (gOp true fIxL (gV 0) (gK (.int 1))) (gUn fLen (gOp true fIxL (gV 0) (gK (.int 0)))))) (gSeq (gAsg 3 (gOp true fIxL (gOp true fIxL (gV 0) (gK (.int 0))) (gOp true fIxL (gV 0) (gK (.int 1)))))
  (gSetI true (gS true (gOp true fAdd (gOp true fIxL (gV 0) (gK (.int 1))) (gK (.int 1)))) (gV 0) (gK (.int 1)))) gSkip)
  (gSeq (gIfS (gB (gOp true fGe (gV 3) (gOp true fPow (gK (.int 10)) (gK (.int 18))))) (gSeq (gSetI true (gS true (gOp true fDiv (gV 3) (gV 1))) (gV 0) (gK (.int 2)))
  (gRet 2 (gOp true fMod (gUn fInt (gV 3)) (gV 1)))) gSkip)
  (gSeq (gSetI true (gS true (gOp true fMod (gUn fInt (gOp true fAdd (gOp true fMul (gOp true fIxL (gV 0) (gK (.int 3))) (gK (.int 48271))) (gV 3))) (gK (.int 2147483647)))) (gV 0) (gK (.int 3)))
  (gRet 2 (gOp true fMod (gUn fInt (gOp true fDiv (gOp true fMod (gUn fInt (gOp true fMul (gOp true fIxL (gV 0) (gK (.int 3))) (gK (.int 69621)))) (gK (.int 2147483629))) (gK (.int 16)))) (gV 1))))))))
def D__law_take : GF := fnD [] 2 2 Db__law_take
def Dc__law_words_1 : G :=
  (gComp (gItR1 (gV 1)) [4] (hName 4) (gB (gOp true fEq (gOp true fMod (gUn fInt (gOp true fDiv (gV 3) (gOp true fIxL (gLst (gCons (gS true (gK (.int 1))) (gCons (gS true (gK (.int 2))) (gCons (gS true (gK (.int 4))) (gCons (gS true (gK (.int 8))) (gCons (gS true (gK (.int 16))) (gCons (gS true (gK (.int 32))) gNil))))))) (gV 4)))) (gK (.int 2))) (gK (.int 1)))) (gS false (gV 4)))
def Db__law_words : GS :=
  (gSeq (gAsg 3 (gOp false fAdd (gV 2) (gCall D__law_take [] (gA (gV 0) (gA (gOp true fSub (gOp true fIxL (gLst (gCons (gS true (gK (.int 1))) (gCons (gS true (gK (.int 2))) (gCons (gS true (gK (.int 4))) (gCons (gS true (gK (.int 8))) (gCons (gS true (gK (.int 16))) (gCons (gS true (gK (.int 32))) (gCons (gS true (gK (.int 64))) gNil)))))))) (gV 1)) (gV 2)) gA0)))))
  (gRet 3 Dc__law_words_1))
def D__law_words : GF := fnD [] 3 2 Db__law_words
def Dl__law_rows_1 : GS :=
  (gIfS (gB (gOp true fEq (gCall D__law_take [] (gA (gV 0) (gA (gK (.int 3)) gA0))) (gK (.int 1)))) (gDo (gPlc pAppend false (gV 3) (gCons (gS false (gLst (gCons (gS false (gCall D__law_take [] (gA (gV 0) (gA (gV 1) gA0)))) gNil))) gNil))) (gDo (gPlc pAppend false (gV 3) (gCons (gS false (gCall D__law_words [] (gA (gV 0) (gA (gV 1) (gA (gV 2) gA0))))) gNil))))
def Db__law_rows : GS :=
  (gSeq (gAsg 3 (gLst gNil))
  (gSeq (gFor (gItR1 (gV 1)) (hName 4) Dl__law_rows_1)
  (gRet 3 (gV 3))))
def D__law_rows : GF := fnD [] 3 2 Db__law_rows
def Db_is_size : GS :=
  (gRet 1 (gChain fLe fLe (gK (.int 1)) (gV 0) (gK (.int 6))))
def D_is_size : GF := fnD [] 1 0 Db_is_size
def Db_check_size : GS :=
  (gIfS (gNotT (gB (gCall D_is_size [] (gA (gV 0) gA0)))) gNever gSkip)
def D_check_size : GF := fnD [] 1 0 Db_check_size
def Db_is_word : GS :=
  (gRet 2 (gChain fLe fLt (gK (.int 0)) (gV 0) (gV 1)))
def D_is_word : GF := fnD [] 2 0 Db_is_word
def Dc_all_words_1 : G :=
  (gComp (gItAlt (gItL (gS false (gV 0))) (gItT (gS false (gV 0)))) [2] (hName 2) gYes (gS false (gCall D_is_word [] (gA (gV 2) (gA (gV 1) gA0)))))
def Db_all_words : GS :=
  (gRet 2 (gUn fAll Dc_all_words_1))
def D_all_words : GF := fnD [] 2 1 Db_all_words
def Dl_Table___init___1 : GS :=
  (gIfS (gNotT (gB (gCall D_all_words [] (gA (gFr false (gV 4)) (gA (gV 2) gA0))))) gNever gSkip)
def Dc_ascending_1 : G :=
  (gComp (gItR1 (gV 1)) [2] (hName 2) (gB (gOp true (fInS false) (gV 2) (gV 0))) (gS false (gV 2)))
def Db_ascending : GS :=
  (gRet 2 Dc_ascending_1)
def D_ascending : GF := fnD [] 2 1 Db_ascending
def Dc_Table___init___1 : G :=
  (gComp (gItL (gS false (gV 1))) [4] (hName 4) gYes (gS false (gUnU A.lsts (gCall D_ascending [] (gA (gFr false (gV 4)) (gA (gV 2) gA0))))))
def Dc_Table___init___2 : G :=
  (gComp2 (gItET (gS true (gFld 0 "_rows" (gV 0)))) [5, 4, 6] [6] (hTup 2 (hCons (hName 5) (hCons (hName 4) hNil))) gYes (gItT (gS false (gV 4))) (hName 6) gYes (gS true (gTup (gCons (gS true (gV 5)) (gCons (gS true (gV 6)) gNil)))))
def Db_Table___init__ : GS :=
  (gSeq (gAsg 2 (gUn fLen (gV 1)))
  (gSeq (gDo (gCall D_check_size [] (gA (gV 2) gA0)))
  (gSeq (gFor (gItE (gS false (gV 1))) (hTup 2 (hCons (hName 3) (hCons (hName 4) hNil))) Dl_Table___init___1)
  (gSeq (gSetF 0 0 "size" (gV 2))
  (gSeq (gSetF 0 0 "_rows" (gUnU A.lsts Dc_Table___init___1))
  (gSetF 0 0 "_pairs" (gUnU A.lsts Dc_Table___init___2)))))))
def D_Table___init__ : GF := fnD [] 2 5 Db_Table___init__
def Db__law_is_int : GS :=
  (gRet 1 (gAndV (gUn (fIsI "int") (gV 0)) (gBl (gNotT (gB (gUn (fIsI "bool") (gV 0)))))))
def D__law_is_int : GF := fnD [] 1 0 Db__law_is_int
def Dc_Table_rows_1 : G :=
  (gComp (gItT (gS true (gFld 0 "_rows" (gV 0)))) [1] (hName 1) gYes (gS true (gUnN A.items (gV 1))))
def Db_Table_rows : GS :=
  (gRet 1 Dc_Table_rows_1)
def D_Table_rows : GF := fnD [] 1 1 Db_Table_rows
def Dl__law_is_words_1 : GS :=
  (gIfS (gNotT (gB (gCall D__law_is_int [] (gA (gV 1) gA0)))) (gRet 1 (gK (.bl false))) gSkip)
def Db__law_is_words : GS :=
  (gSeq (gIfS (gNotT (gB (gUn (fIsI "list") (gV 0)))) (gRet 1 (gK (.bl false))) gSkip)
  (gSeq (gFor (gItL (gS false (gV 0))) (hName 1) Dl__law_is_words_1)
  (gRet 1 (gK (.bl true)))))
def D__law_is_words : GF := fnD [] 1 1 Db__law_is_words
def Dl__law_same_1 : GS :=
  (gIfS (gOrT (gNotT (gB (gCall D__law_is_words [] (gA (gOp true fIxL (gV 2) (gV 3)) gA0)))) (gB (gOp true fNeD (gOp true fIxL (gV 2) (gV 3)) (gOp true fIxL (gV 1) (gV 3))))) (gRet 2 (gK (.bl false))) gSkip)
def Db__law_same : GS :=
  (gSeq (gIfS (gOrT (gNotT (gB (gUn (fIsO [(0, true)]) (gV 0)))) (gOrT (gNotT (gB (gCall D__law_is_int [] (gA (gFld 0 "size" (gV 0)) gA0)))) (gB (gOp true fNeD (gFld 0 "size" (gV 0)) (gUn fLen (gV 1)))))) (gRet 2 (gK (.bl false))) gSkip)
  (gSeq (gAsg 2 (gFr false (gMeth 0 "rows" D_Table_rows [] (gFr false (gV 0)) gA0)))
  (gSeq (gIfS (gOrT (gNotT (gB (gUn (fIsI "list") (gV 2)))) (gB (gOp true fNe (gUn fLen (gV 2)) (gUn fLen (gV 1))))) (gRet 2 (gK (.bl false))) gSkip)
  (gSeq (gFor (gItR1 (gUn fLen (gV 1))) (hName 3) Dl__law_same_1)
  (gRet 2 (gK (.bl true)))))))
def D__law_same : GF := fnD [] 2 2 Db__law_same
def Dc_Table_identity_1 : G :=
  (gComp (gItR1 (gV 1)) [2] (hName 2) gYes (gS true (gLst (gCons (gS true (gV 2)) gNil))))
def Db_Table_identity : GS :=
  (gSeq (gDo (gCall D_check_size [] (gA (gV 1) gA0)))
  (gRet 2 (gT (gMakeN 0 0 D_Table___init__ (gA Dc_Table_identity_1 gA0)))))
def D_Table_identity : GF := fnD [] 2 1 Db_Table_identity
def Db_check_same_size : GS :=
  (gIfS (gB (gOp true fNeD (gAlt (gFld 0 "size" (gV 0)) (gAlt (gFld 1 "size" (gV 0)) (gFld 6 "size" (gV 0)))) (gAlt (gFld 0 "size" (gV 1)) (gAlt (gFld 2 "size" (gV 1)) (gAlt (gFld 3 "size" (gV 1)) (gAlt (gFld 4 "size" (gV 1)) (gFld 5 "size" (gV 1)))))))) gNever gSkip)
def D_check_same_size : GF := fnD [] 2 0 Db_check_same_size
def Dc_Table__out_of_some_1 : G :=
  (gComp2 (gItAlt (gItL (gS false (gV 1))) (gItT (gS false (gV 1)))) [2, 3] [3] (hName 2) gYes (gItT (gS true (gOp true fIxT (gFld 0 "_rows" (gV 0)) (gV 2)))) (hName 3) gYes (gS false (gV 3)))
def Db_Table__out_of_some : GS :=
  (gRet 2 (gCall D_ascending [] (gA Dc_Table__out_of_some_1 (gA (gFld 0 "size" (gV 0)) gA0))))
def D_Table__out_of_some : GF := fnD [] 2 2 Db_Table__out_of_some
def Dc_Table___mul___1 : G :=
  (gComp (gItT (gS true (gFld 0 "_rows" (gV 0)))) [2] (hName 2) gYes (gS false (gMeth 0 "_out_of_some" D_Table__out_of_some [] (gFr false (gV 1)) (gA (gFr false (gV 2)) gA0))))
def Db_Table___mul__ : GS :=
  (gSeq (gDo (gCall D_check_same_size [] (gA (gFr false (gV 0)) (gA (gFr false (gV 1)) gA0))))
  (gRet 2 (gT (gMakeR 0 D_Table___init__ [] (gA Dc_Table___mul___1 gA0)))))
def D_Table___mul__ : GF := fnD [] 2 1 Db_Table___mul__
def Dc__law_same_rows_1 : G :=
  (gComp (gItR1 (gV 0)) [1] (hName 1) gYes (gS true (gLst (gCons (gS true (gV 1)) gNil))))
def Db__law_same_rows : GS :=
  (gRet 1 Dc__law_same_rows_1)
def D__law_same_rows : GF := fnD [] 1 1 Db__law_same_rows
def Dc__law_join_1 : G :=
  (gComp (gItL (gS true (gOp true fIxL (gV 1) (gV 5)))) [6] (hName 6) (gB (gOp true (fInS true) (gV 6) (gV 4))) (gS false (gV 6)))
def Dl__law_join_1 : GS :=
  (gAsg 4 (gFr false (gOpN false fCat (gV 4) Dc__law_join_1)))
def Dc__law_join_2 : G :=
  (gComp (gItR1 (gUn fLen (gV 1))) [7] (hName 7) (gB (gOp true (fInS false) (gV 7) (gV 4))) (gS false (gV 7)))
def Dl__law_join_2 : GS :=
  (gSeq (gAsg 4 (gFr false (gLst gNil)))
  (gSeq (gFor (gItL (gS false (gV 3))) (hName 5) Dl__law_join_1)
  (gDo (gPlc pAppend false (gV 2) (gCons (gS false Dc__law_join_2) gNil)))))
def Db__law_join : GS :=
  (gSeq (gAsg 2 (gLst gNil))
  (gSeq (gFor (gItL (gS false (gV 0))) (hName 3) Dl__law_join_2)
  (gRet 2 (gV 2))))
def D__law_join : GF := fnD [] 2 6 Db__law_join
def Dc__law_comes_1 : G :=
  (gComp (gItL (gS true (gOp true fIxL (gOp true fGet (gV 0) (gV 8)) (gV 9)))) [10] (hName 10) (gB (gOp true (fInS true) (gV 10) (gV 7))) (gS false (gV 10)))
def Dl__law_comes_1 : GS :=
  (gAsg 7 (gFr false (gOpN false fCat (gV 7) Dc__law_comes_1)))
def Dl__law_comes_2 : GS :=
  (gIfS (gB (gOp true (fInS false) (gV 4) (gLst (gCons (gS true (gK (.str "?"))) (gCons (gS true (gK (.str "*"))) (gCons (gS true (gV 8)) gNil)))))) (gFor (gItL (gS false (gV 3))) (hName 9) Dl__law_comes_1) gSkip)
def Dc__law_comes_2 : G :=
  (gComp (gItL (gS false (gV 7))) [10] (hName 10) (gB (gOp true (fInS true) (gV 10) (gV 3))) (gS false (gV 10)))
def Dl__law_comes_3 : GS :=
  (gSeq (gAsg 7 (gFr false (gLst gNil)))
  (gSeq (gForD A.keysD (lcV 0) (hName 8) Dl__law_comes_2)
  (gSeq (gIfS (gB (gOp true fEq (gV 4) (gK (.str "*")))) (gAsg 7 (gFr false (gOpN false fCat (gV 3) Dc__law_comes_2))) gSkip)
  (gAsg 3 (gV 7)))))
noncomputable def Xb_check_same_size : GS :=
  (gIfS (gB (gOp true fNeD (gAlt (gFld 0 "size" (gV 0)) (gAlt (gFld 1 "size" (gV 0)) (gFld 6 "size" (gV 0)))) (gAlt (gFld 0 "size" (gV 1)) (gAlt (gFld 2 "size" (gV 1)) (gAlt (gFld 3 "size" (gV 1)) (gAlt (gFld 4 "size" (gV 1)) (gFld 5 "size" (gV 1)))))))) (gRaise 3 (gA (gAlt (gFld 0 "size" (gV 0)) (gAlt (gFld 1 "size" (gV 0)) (gFld 6 "size" (gV 0)))) (gA (gAlt (gFld 0 "size" (gV 1)) (gAlt (gFld 2 "size" (gV 1)) (gAlt (gFld 3 "size" (gV 1)) (gAlt (gFld 4 "size" (gV 1)) (gFld 5 "size" (gV 1)))))) gA0))) gSkip)
noncomputable def X_check_same_size : BF := fnB [] 2 0 Xb_check_same_size
noncomputable def Dt_Table_repeated_1 : Dl.Env → Option (Bool × Dl.Env) :=
  (gB (gOp true fGt (gV 1) (gK (.int 0))))
noncomputable def Dl_Table_repeated_1 : GS :=
  (gSeq (gIfS (gTru (gOp true fAnd (gV 1) (gK (.int 1)))) (gAsg 2 (gFr false (gOp2 (bothIns 0) false D_Table___mul__ (gV 2) (gV 3)))) gSkip)
  (gSeq (gAsg 3 (gFr false (gOp2 (bothIns 0) false D_Table___mul__ (gV 3) (gV 3))))
  (gAsg 1 (gOp true fShr (gV 1) (gK (.int 1))))))
noncomputable def Db_Table_repeated : GS :=
  (gSeq (gIfS (gB (gOp true fLt (gV 1) (gK (.int 0)))) gNever gSkip)
  (gSeq (gAsg 2 (gFr false (gCls 0 D_Table_identity (gA (gFld 0 "size" (gV 0)) gA0))))
  (gSeq (gAsg 3 (gV 0))
  (gSeq (gWhile Dt_Table_repeated_1 Dl_Table_repeated_1)
  (gRet 2 (gV 2))))))
noncomputable def D_Table_repeated : GF := fnD [1] 2 2 Db_Table_repeated
def Dc_Table__entry_1 : G :=
  (gComp (gItT (gS true (gOp true fIxT (gFld 0 "_rows" (gV 0)) (gV 1)))) [3] (hName 3) gYes (gS true (gUn fStrI (gV 3))))
def Db_Table__entry : GS :=
  (gSeq (gAsg 2 (gOrT2 (gMs mJoin (gK (.str ",")) (gCons (gS false Dc_Table__entry_1) gNil)) (gK (.str "-"))))
  (gRet 2 (gJoined [(gUn fFmt (gV 1)), (gK (.str ">")), (gUn fFmt (gV 2))])))
def D_Table__entry : GF := fnD [] 2 2 Db_Table__entry
def Dc_Table___str___1 : G :=
  (gComp (gItR1 (gFld 0 "size" (gV 0))) [1] (hName 1) gYes (gS false (gMeth 0 "_entry" D_Table__entry [] (gFr false (gV 0)) (gA (gV 1) gA0))))
def Db_Table___str__ : GS :=
  (gRet 1 (gMs mJoin (gK (.str " ")) (gCons (gS false Dc_Table___str___1) gNil)))
def D_Table___str__ : GF := fnD [] 1 1 Db_Table___str__
def Db_Lot__place_for : GS :=
  (gSeq (gAsg 4 (gOwn okText 0 D_Table___str__ (gV 2)))
  (gSeq (gIfS (gB (gOp true fDNotIn (gV 4) (gFld 7 "_places" (gV 0)))) (gSeq (gIfS (gB (gOp true fGe (gUn fLen (gFld 7 "_names" (gV 0))) (gV 3))) gNever gSkip)
  (gSeq (gDPut true (gS true (gUn fLen (gFld 7 "_names" (gV 0)))) (gFld 7 "_places" (gV 0)) (gV 4))
  (gSeq (gDo (gPlc pAppend true (gFld 7 "_names" (gV 0)) (gCons (gS true (gV 1)) gNil)))
  (gDo (gPlcH pAppend (gFld 7 "_tables" (gV 0)) (gCons (gS false (gV 2)) gNil)))))) gSkip)
  (gRet 4 (gOp true fGet (gFld 7 "_places" (gV 0)) (gV 4)))))
def D_Lot__place_for : GF := fnD [] 4 1 Db_Lot__place_for
def Dc_law_k07_1 : G :=
  (gComp (gItL (gS false (gV 3))) [8] (hName 8) gYes (gS true (gUnN A.items (gV 8))))
def Dl__law_power_1 : GS :=
  (gSeq (gAsg 5 (gFr false (gCall D__law_join [] (gA (gOp true fIxL (gV 2) (gV 4)) (gA (gFr false (gV 0)) gA0)))))
  (gSeq (gIfS (gB (gOp true fDIn (gUn fStrD (gV 5)) (gV 3))) (gSeq (gAsg 6 (gOp true fGet (gV 3) (gUn fStrD (gV 5))))
  (gSeq (gIfS (gB (gOp true fGe (gV 1) (gV 6))) (gAsg 1 (gOp true fAdd (gV 6) (gOp true fMod (gUn fInt (gOp true fSub (gV 1) (gV 6))) (gOp true fSub (gUn fLen (gV 2)) (gV 6))))) gSkip)
  (gRet 2 (gOp true fIxL (gV 2) (gV 1))))) gSkip)
  (gSeq (gDPut true (gS true (gUn fLen (gV 2))) (gV 3) (gUn fStrD (gV 5)))
  (gDo (gPlc pAppend false (gV 2) (gCons (gS false (gV 5)) gNil))))))
def Db__law_power : GS :=
  (gSeq (gAsg 2 (gLst (gCons (gS false (gCall D__law_same_rows [] (gA (gUn fLen (gV 0)) gA0))) gNil)))
  (gSeq (gAsg 3 (gDisp (gPs (gS true (gUn fStrD (gOp true fIxL (gV 2) (gK (.int 0))))) (gS true (gK (.int 0))) gPs0)))
  (gSeq (gFor (gItR1 (gK (.int 200))) (hName 4) Dl__law_power_1)
  (gRet 2 (gLst gNil)))))
def D__law_power : GF := fnD [1] 2 5 Db__law_power
noncomputable def Xb_check_size : GS :=
  (gIfS (gNotT (gB (gCall D_is_size [] (gA (gV 0) gA0)))) (gRaise 0 (gA (gV 0) gA0)) gSkip)
noncomputable def X_check_size : BF := fnB [] 1 0 Xb_check_size
noncomputable def Dl_X_Table___init___1 : GS :=
  (gIfS (gNotT (gB (gCall D_all_words [] (gA (gFr false (gV 4)) (gA (gV 2) gA0))))) (gRaise 1 (gA (gV 3) gA0)) gSkip)
noncomputable def Xb_Table___init__ : GS :=
  (gSeq (gAsg 2 (gUn fLen (gV 1)))
  (gSeq (gOr (gDo (gCall D_check_size [] (gA (gV 2) gA0))) (bCall X_check_size [] (gA (gV 2) gA0)))
  (gSeq (gFor (gItE (gS false (gV 1))) (hTup 2 (hCons (hName 3) (hCons (hName 4) hNil))) Dl_X_Table___init___1)
  (gSeq (gSetF 0 0 "size" (gV 2))
  (gSeq (gSetF 0 0 "_rows" (gUnU A.lsts Dc_Table___init___1))
  (gSetF 0 0 "_pairs" (gUnU A.lsts Dc_Table___init___2)))))))
noncomputable def X_Table___init__ : BF := fnB [] 2 5 Xb_Table___init__
noncomputable def Xb_Table___mul__ : GS :=
  (gSeq (gOr (gDo (gCall D_check_same_size [] (gA (gFr false (gV 0)) (gA (gFr false (gV 1)) gA0)))) (bCall X_check_same_size [] (gA (gFr false (gV 0)) (gA (gFr false (gV 1)) gA0))))
  (gOr (gRet 2 (gT (gMakeR 0 D_Table___init__ [] (gA Dc_Table___mul___1 gA0)))) (bMakeR 0 X_Table___init__ [] (gA Dc_Table___mul___1 gA0))))
noncomputable def X_Table___mul__ : BF := fnB [] 2 1 Xb_Table___mul__
noncomputable def Dl_X_Table_repeated_1 : GS :=
  (gSeq (gIfS (gTru (gOp true fAnd (gV 1) (gK (.int 1)))) (gOr (gAsg 2 (gFr false (gOp2 (bothIns 0) false D_Table___mul__ (gV 2) (gV 3)))) (bOwn2 (bothIns 0) false X_Table___mul__ (gV 2) (gV 3))) gSkip)
  (gSeq (gOr (gAsg 3 (gFr false (gOp2 (bothIns 0) false D_Table___mul__ (gV 3) (gV 3)))) (bOwn2 (bothIns 0) false X_Table___mul__ (gV 3) (gV 3)))
  (gAsg 1 (gOp true fShr (gV 1) (gK (.int 1))))))
noncomputable def Xb_Table_repeated : GS :=
  (gSeq (gIfS (gB (gOp true fLt (gV 1) (gK (.int 0)))) (gRaise 4 (gA (gV 1) gA0)) gSkip)
  (gSeq (gAsg 2 (gFr false (gCls 0 D_Table_identity (gA (gFld 0 "size" (gV 0)) gA0))))
  (gSeq (gAsg 3 (gV 0))
  (gSeq (gWhile Dt_Table_repeated_1 Dl_X_Table_repeated_1)
  (gRet 2 (gV 2))))))
noncomputable def X_Table_repeated : BF := fnB [1] 2 2 Xb_Table_repeated
noncomputable def Dq__law_count_error : GS :=
  (gOr (gDo (gMeth 0 "repeated" D_Table_repeated [] (gFr false (gV 0)) (gA (gV 1) gA0))) (bMeth 0 "repeated" X_Table_repeated [] (gFr false (gV 0)) (gA (gV 1) gA0)))
noncomputable def Dz__law_count_error : GS :=
  (gRet 2 (gLst gNil))
def Tb__law_count_error : Nat → Option (List A → List A) :=
  (fun c => if c = 4 then some (fun xs => xs.getD 0 .non :: .bl true :: []) else none)
noncomputable def D__law_count_error : GF := fnT [] 2 1 Dq__law_count_error Dz__law_count_error Tb__law_count_error
noncomputable def Dr_law_k07 : GS :=
  (gSeq (gAsg 2 (gOp false fAdd (gK (.int 1)) (gCall D__law_take [] (gA (gV 1) (gA (gK (.int 6)) gA0)))))
  (gSeq (gAsg 3 (gFr false (gCall D__law_rows [] (gA (gV 1) (gA (gV 2) (gA (gK (.int 0)) gA0))))))
  (gSeq (gAsg 4 (gFr false (gT (gMakeR 0 D_Table___init__ [] (gA Dc_law_k07_1 gA0)))))
  (gSeq (gAsg 5 (gCall D__law_take [] (gA (gV 1) (gA (gK (.int 3)) gA0))))
  (gSeq (gAsg 6 (gCall D__law_take [] (gA (gV 1) (gA (gK (.int 12)) gA0))))
  (gSeq (gIfS (gB (gOp true fEq (gV 5) (gK (.int 1)))) (gAsg 6 (gCall D__law_take [] (gA (gV 1) (gA (gOp true fPow (gK (.int 10)) (gK (.int 40))) gA0)))) gSkip)
  (gSeq (gIfS (gB (gOp true fEq (gV 5) (gK (.int 2)))) (gAsg 6 (gOp true fAdd (gOp true fPow (gK (.int 10)) (gK (.int 30))) (gV 6))) gSkip)
  (gSeq (gIfS (gNotT (gB (gCall D__law_same [] (gA (gMeth 0 "repeated" D_Table_repeated [] (gFr false (gV 4)) (gA (gV 6) gA0)) (gA (gCall D__law_power [] (gA (gFr false (gV 3)) (gA (gV 6) gA0))) gA0))))) (gRet 1 (gK (.bl false))) gSkip)
  (gSeq (gIfS (gOrT (gNotT (gB (gCall D__law_same [] (gA (gMeth 0 "repeated" D_Table_repeated [] (gFr false (gV 4)) (gA (gK (.int 0)) gA0)) (gA (gCall D__law_same_rows [] (gA (gV 2) gA0)) gA0))))) (gNotT (gB (gCall D__law_same [] (gA (gMeth 0 "repeated" D_Table_repeated [] (gFr false (gV 4)) (gA (gK (.int 1)) gA0)) (gA (gFr false (gV 3)) gA0)))))) (gRet 1 (gK (.bl false))) gSkip)
  (gSeq (gAsg 7 (gOp false fSub (gUn fNeg (gK (.int 1))) (gCall D__law_take [] (gA (gV 1) (gA (gOp true fPow (gK (.int 10)) (gK (.int 39))) gA0)))))
  (gRet 1 (gAndV (gOp true fEqD (gCall D__law_count_error [] (gA (gFr false (gV 4)) (gA (gV 7) gA0))) (gLst (gCons (gS true (gV 7)) (gCons (gS true (gK (.bl true))) gNil)))) (gCall D__law_same [] (gA (gFr false (gV 4)) (gA (gFr false (gV 3)) gA0)))))))))))))))
end Dg
namespace Dg
open PySem PySem.Spec L2 Dl
theorem units1 {A : Around} {k : Nat} (hr : Room k A) : A.units + 1 < cLine := by have := hr.un; omega
structure Bn (mg : Str → Option Value) : Prop where
  abs_ : mg "abs" = none
  all_ : mg "all" = none
  bool_ : mg "bool" = none
  enumerate_ : mg "enumerate" = none
  int_ : mg "int" = none
  isinstance_ : mg "isinstance" = none
  len_ : mg "len" = none
  list_ : mg "list" = none
  range_ : mg "range" = none
  str_ : mg "str" = none
  tuple_ : mg "tuple" = none
structure Al (P : Program) (K : PySem.W.Frag) (mg : Str → Option Value) (cl : Nat → Addr) : Prop where
  B : Bn mg
  f__law_box : ∃ f fd, Fun K "_law_box" "_law_box" s__law_box f fd ∧ mg "_law_box" = some (.ref f) ∧ Binds K fd ["_law_script"] []
  f__law_take : ∃ f fd, Fun K "_law_take" "_law_take" s__law_take f fd ∧ mg "_law_take" = some (.ref f) ∧ Binds K fd ["_law_box_here", "_law_many"] []
  f__law_words : ∃ f fd, Fun K "_law_words" "_law_words" s__law_words f fd ∧ mg "_law_words" = some (.ref f) ∧ Binds K fd ["_law_box_here", "_law_n", "_law_least"] []
  f__law_rows : ∃ f fd, Fun K "_law_rows" "_law_rows" s__law_rows f fd ∧ mg "_law_rows" = some (.ref f) ∧ Binds K fd ["_law_box_here", "_law_n", "_law_least"] []
  f_is_size : ∃ f fd, Fun K "is_size" "is_size" s_is_size f fd ∧ mg "is_size" = some (.ref f) ∧ Binds K fd ["size"] []
  f_check_size : ∃ f fd, Fun K "check_size" "check_size" s_check_size f fd ∧ mg "check_size" = some (.ref f) ∧ Binds K fd ["size"] []
  f_is_word : ∃ f fd, Fun K "is_word" "is_word" s_is_word f fd ∧ mg "is_word" = some (.ref f) ∧ Binds K fd ["word", "size"] []
  f_all_words : ∃ f fd, Fun K "all_words" "all_words" s_all_words f fd ∧ mg "all_words" = some (.ref f) ∧ Binds K fd ["words", "size"] []
  f_ascending : ∃ f fd, Fun K "ascending" "ascending" s_ascending f fd ∧ mg "ascending" = some (.ref f) ∧ Binds K fd ["words", "size"] []
  f_Table___init__ : ∃ f fd, Fun K "__init__" "Table.__init__" s_Table___init__ f fd ∧ Mk K (cl 0) f ∧ Binds K fd ["self", "rows"] []
  f__law_is_int : ∃ f fd, Fun K "_law_is_int" "_law_is_int" s__law_is_int f fd ∧ mg "_law_is_int" = some (.ref f) ∧ Binds K fd ["_law_value"] []
  f_Table_rows : ∃ f fd, Fun K "rows" "Table.rows" s_Table_rows f fd ∧ Meth K (cl 0) "rows" f ∧ Binds K fd ["self"] []
  f__law_is_words : ∃ f fd, Fun K "_law_is_words" "_law_is_words" s__law_is_words f fd ∧ mg "_law_is_words" = some (.ref f) ∧ Binds K fd ["_law_value"] []
  f__law_same : ∃ f fd, Fun K "_law_same" "_law_same" s__law_same f fd ∧ mg "_law_same" = some (.ref f) ∧ Binds K fd ["_law_table", "_law_rows_here"] []
  f_Table_identity : ∃ p f fd, Fun K "identity" "Table.identity" s_Table_identity f fd ∧ ClX.CMet K (cl 0) (.type "type") "identity" p f ∧ Binds K fd ["cls", "size"] []
  f_check_same_size : ∃ f fd, Fun K "check_same_size" "check_same_size" s_check_same_size f fd ∧ mg "check_same_size" = some (.ref f) ∧ Binds K fd ["first", "second"] []
  f_Table__out_of_some : ∃ f fd, Fun K "_out_of_some" "Table._out_of_some" s_Table__out_of_some f fd ∧ Meth K (cl 0) "_out_of_some" f ∧ Binds K fd ["self", "words"] []
  f_Table___mul__ : ∃ f fd, Fun K "__mul__" "Table.__mul__" s_Table___mul__ f fd ∧ PySem.W.findIn K (.ref (cl 0)) "__mul__" = some (some (.ref f)) ∧ PySem.W.isFn K (.ref f) = true ∧ Binds K fd ["self", "other"] []
  f_Table_repeated : ∃ f fd, Fun K "repeated" "Table.repeated" s_Table_repeated f fd ∧ Meth K (cl 0) "repeated" f ∧ Binds K fd ["self", "count"] []
  f__law_same_rows : ∃ f fd, Fun K "_law_same_rows" "_law_same_rows" s__law_same_rows f fd ∧ mg "_law_same_rows" = some (.ref f) ∧ Binds K fd ["_law_n"] []
  f__law_join : ∃ f fd, Fun K "_law_join" "_law_join" s__law_join f fd ∧ mg "_law_join" = some (.ref f) ∧ Binds K fd ["_law_first", "_law_last"] []
  f__law_power : ∃ f fd, Fun K "_law_power" "_law_power" s__law_power f fd ∧ mg "_law_power" = some (.ref f) ∧ Binds K fd ["_law_rows_here", "_law_count"] []
  f__law_count_error : ∃ f fd, Fun K "_law_count_error" "_law_count_error" s__law_count_error f fd ∧ mg "_law_count_error" = some (.ref f) ∧ Binds K fd ["_law_table", "_law_count"] []
  f_law_k07 : ∃ f fd, Fun K "law" "law" s_law_k07 f fd ∧ mg "law" = some (.ref f) ∧ Binds K fd ["_law_script"] []
  k_Cast : Cls K (cl 1)
  k_Clues : Cls K (cl 6)
  k_Doubter : Cls K (cl 4)
  k_Knower : Cls K (cl 3)
  k_KnowingDoubter : Cls K (cl 5)
  k_Person : Cls K (cl 2)
  k_Table : Cls K (cl 0)
  n_Cast_size : NoAttr K (cl 1) "size"
  n_Clues_size : NoAttr K (cl 6) "size"
  n_Doubter_size : NoAttr K (cl 4) "size"
  n_Knower_size : NoAttr K (cl 3) "size"
  n_KnowingDoubter_size : NoAttr K (cl 5) "size"
  n_Person_size : NoAttr K (cl 2) "size"
  n_Table__pairs : NoAttr K (cl 0) "_pairs"
  n_Table__rows : NoAttr K (cl 0) "_rows"
  n_Table_size : NoAttr K (cl 0) "size"
  g_Table : mg "Table" = some (.ref (cl 0))
  sf_Table : PySem.W.selfFirst K (cl 0) = true
  r_Table : ClX.CRead K (cl 0) (.type "type")
  cv_Table_MOST : ∃ t, PySem.W.findCls K (.ref (cl 0)) (.type "type") "MOST" = some (.val (.int 6 t))
  kit_Table : KitO K cl 0 [(0, true)]
  f__law_single : ∃ f fd, Fun K "_law_single" "_law_single" s__law_single f fd ∧ mg "_law_single" = some (.ref f) ∧ Binds K fd ["_law_e"] []
  errG : Eb.ErrG mg (erOf cl)
  e_BadSize : Eb.ErX P K mg (erOf cl) "BadSize" ["size"] (cl 100)
  e_BadTable : Eb.ErX P K mg (erOf cl) "BadTable" ["index"] (cl 101)
  e_SizeMismatch : Eb.ErX P K mg (erOf cl) "SizeMismatch" ["first", "second"] (cl 103)
  e_BadCount : Eb.ErX P K mg (erOf cl) "BadCount" ["count"] (cl 104)
  x_4_4 : PySem.W.exmOne K (.ref (cl 104)) (.ref (cl 104)) = some true
section
open Eb
variable {P : Program} {w : World} {K : PySem.W.Frag} {mg : Str → Option Value} {base : Heap}
theorem ok_single {f : Addr} {r : Errs} {fd : FuncData} (F : Fun K "_law_single" "_law_single" s__law_single f fd) (G : ErrG mg r) : FnE P w K mg base 1 f fd ["_law_e"] (spSingle K r) := by
  have ⟨oc, od, kV, doc, pm, an, cdv, ct, osl, e, lk, hcd⟩ := F.ex
  subst e
  refine fn_ofE lk hcd sc__law_single (fun p vs H Q E h => ?_) (fun p A outer s H vs Q hot room h => ?_)
  · obtain ⟨D, dd, fs, rfl, _⟩ := h
    rfl
  · obtain ⟨D, dd, fs, rfl, kg, hz, hf, hdd, k⟩ := h
    have isx : ∀ {x1 : Str} {t1 : TE} {q1 q2 q3 q4 : Pos}, PE (L2H.cxH CX0 P w K mg base N__law_single "_law_single" (defScope s__law_single) f cdv A outer s H E0 p) (.Name x1 q4) t1 → PE (L2H.cxH CX0 P w K mg base N__law_single "_law_single" (defScope s__law_single) f cdv A outer s H E0 p) (.Call (.Name "isinstance" q1) [.Name "_law_e" q2, .Name x1 q4] [] q3) (tCB (rIsEx K p) (tCons (tVar 0) (tCons t1 tNil))) :=
      fun h1 => pe_callB (call_isEx (List.mem_singleton.mpr rfl)) (by rfl) G.i (by decide +kernel) (pa_cons (pv 0) (pa_cons h1 pa_nil))
    refine ⟨_, (pss_cons (ps_set (i := 1) sc__law_single.nd rfl (Or.inl rfl) (pe_lst (pa_cons (isx (pe_glob rfl G.e0 (v := .ref r.c0) rfl)) (pa_cons (isx (pe_glob rfl G.e1 (v := .ref r.c1) rfl)) (pa_cons (isx (pe_glob rfl G.e2 (v := .ref r.c2) rfl)) (pa_cons (isx (pe_glob rfl G.e3 (v := .ref r.c3) rfl)) pa_nil))))))
      (pss_cons (ps_set (i := 1) sc__law_single.nd rfl (Or.inl rfl) (pe_op op_cat (pv 1) (pe_lst (pa_cons (isx (pe_glob rfl G.e4 (v := .ref r.c4) rfl)) (pa_cons (isx (pe_glob rfl G.e5 (v := .ref r.c5) rfl)) (pa_cons (isx (pe_glob rfl G.e6 (v := .ref r.c6) rfl)) pa_nil))))))
      (pss_cons (ps_set (i := 1) sc__law_single.nd rfl (Or.inl rfl) (pe_op op_cat (pv 1) (pe_lst (pa_cons (isx (pe_glob rfl G.e7 (v := .ref r.c7) rfl)) (pa_cons (isx (pe_glob rfl G.e8 (v := .ref r.c8) rfl)) (pa_cons (isx (pe_glob rfl G.e9 (v := .ref r.c9) rfl)) pa_nil))))))
      (pss_cons (ps_set (i := 1) sc__law_single.nd rfl (Or.inl rfl) (pe_op op_cat (pv 1) (pe_lst (pa_cons (isx (pe_glob rfl G.e10 (v := .ref r.c10) rfl)) (pa_cons (isx (pe_glob rfl G.e11 (v := .ref r.c11) rfl)) (pa_cons (isx (pe_glob rfl G.e12 (v := .ref r.c12) rfl)) pa_nil))))))
      (pss_cons (ps_set (i := 1) sc__law_single.nd rfl (Or.inl rfl) (pe_op op_cat (pv 1) (pe_lst (pa_cons (isx (pe_glob rfl G.e13 (v := .ref r.c13) rfl)) (pa_cons (isx (pe_glob rfl G.e14 (v := .ref r.c14) rfl)) (pa_cons (isx (pe_glob rfl G.e15 (v := .ref r.c15) rfl)) pa_nil))))))
      (pss_cons (ps_set (i := 1) sc__law_single.nd rfl (Or.inl rfl) (pe_op op_cat (pv 1) (pe_lst (pa_cons (isx (pe_glob rfl G.e16 (v := .ref r.c16) rfl)) (pa_cons (isx (pe_glob rfl G.e17 (v := .ref r.c17) rfl)) (pa_cons (isx (pe_glob rfl G.e18 (v := .ref r.c18) rfl)) pa_nil))))))
      (pss_one (ps_ret (pe_and (isx (pe_glob rfl G.m (v := .ref r.M) rfl)) (pe_and (isx (pe_bltn (by rfl) G.v (by decide +kernel) (v := .ty "ValueError") (u := .type "ValueError") rfl)) (pe_one (pe_cmpR op_eq (pe_callB call_len_seq (by rfl) G.l PySem.boot_len (pa_cons (pe_lcH (own := [("_law_kind", 2)]) (g := gName 2) (tt := tTest (tVar 2)) ⟨p, hot, List.mem_singleton.mpr rfl⟩ sc__law_single.nd (pv 1) (blkOk_by (own := [("_law_kind", 2)]) (N := N__law_single) (sc := defScope s__law_single) (by decide +kernel)) (fun _ _ _ _ _ => pg_name (i := 2) sc__law_single.nd rfl (Or.inl rfl)) (fun _ _ _ _ _ => pts_one (pt_val (pv 2))) (fun _ _ _ _ _ => pe_int)) pa_nil)) pe_int (nomark _))))))))))))), ?_⟩
    obtain ⟨b0, b1, b2, b3, b4, b5, b6, b7, b8, b9, b10, b11, b12, b13, b14, b15, b16, b17, b18, h0, h1, h2, h3, h4, h5, h6, h7, h8, h9, h10, h11, h12, h13, h14, h15, h16, h17, h18, one⟩ := kg.k
    refine ⟨_, rfl, D, _, .ref r.c0, b0, dd, fs, rfl, fun u h => h, kg.x, hz, hf, hdd, h0, ⟨_, rfl, D, _, .ref r.c1, b1, dd, fs, rfl, fun u h => h, kg.x, hz, hf, hdd, h1, ⟨_, rfl, D, _, .ref r.c2, b2, dd, fs, rfl, fun u h => h, kg.x, hz, hf, hdd, h2, ⟨_, rfl, D, _, .ref r.c3, b3, dd, fs, rfl, fun u h => h, kg.x, hz, hf, hdd, h3, by show 4 ≤ sizeLine; decide, fun l0 n0 => ?_⟩⟩⟩⟩
    have k0 := newH (H := H) (o := .lst [.bl b0, .bl b1, .bl b2, .bl b3]) n0
    have a0 : upd H l0 (.lst [.bl b0, .bl b1, .bl b2, .bl b3]) l0 = some (.lst [.bl b0, .bl b1, .bl b2, .bl b3]) := upd_same
    generalize upd H l0 (.lst [.bl b0, .bl b1, .bl b2, .bl b3]) = H0 at k0 a0 ⊢
    have d0 := k0 _ _ hdd
    refine ⟨_, rfl, ?_⟩
    refine ⟨_, rfl, D, _, .ref r.c4, b4, dd, fs, rfl, fun u h => h, kg.x, hz, hf, d0, h4, ⟨_, rfl, D, _, .ref r.c5, b5, dd, fs, rfl, fun u h => h, kg.x, hz, hf, d0, h5, ⟨_, rfl, D, _, .ref r.c6, b6, dd, fs, rfl, fun u h => h, kg.x, hz, hf, d0, h6, by show 3 ≤ sizeLine; decide, fun m1 n1 => ?_⟩⟩⟩
    have a0' := newH (H := H0) (o := .lst [.bl b4, .bl b5, .bl b6]) n1 _ _ a0
    refine ⟨_, _, _, _, rfl, rfl, a0', upd_same, by show 4 + 3 ≤ sizeLine; decide, fun l1 x1 => ?_⟩
    have k1 := k0.trans ((newH (H := H0) (o := .lst [.bl b4, .bl b5, .bl b6]) n1).trans (newH (o := .lst ([.bl b0, .bl b1, .bl b2, .bl b3] ++ [.bl b4, .bl b5, .bl b6])) x1))
    have a1 : upd (upd H0 m1 (.lst [.bl b4, .bl b5, .bl b6])) l1 (.lst ([.bl b0, .bl b1, .bl b2, .bl b3] ++ [.bl b4, .bl b5, .bl b6])) l1 = some (.lst [.bl b0, .bl b1, .bl b2, .bl b3, .bl b4, .bl b5, .bl b6]) := upd_same
    generalize upd (upd H0 m1 (.lst [.bl b4, .bl b5, .bl b6])) l1 (.lst ([.bl b0, .bl b1, .bl b2, .bl b3] ++ [.bl b4, .bl b5, .bl b6])) = H1 at k1 a1 ⊢
    have d1 := k1 _ _ hdd
    refine ⟨_, rfl, ?_⟩
    refine ⟨_, rfl, D, _, .ref r.c7, b7, dd, fs, rfl, fun u h => h, kg.x, hz, hf, d1, h7, ⟨_, rfl, D, _, .ref r.c8, b8, dd, fs, rfl, fun u h => h, kg.x, hz, hf, d1, h8, ⟨_, rfl, D, _, .ref r.c9, b9, dd, fs, rfl, fun u h => h, kg.x, hz, hf, d1, h9, by show 3 ≤ sizeLine; decide, fun m2 n2 => ?_⟩⟩⟩
    have a1' := newH (H := H1) (o := .lst [.bl b7, .bl b8, .bl b9]) n2 _ _ a1
    refine ⟨_, _, _, _, rfl, rfl, a1', upd_same, by show 7 + 3 ≤ sizeLine; decide, fun l2 x2 => ?_⟩
    have k2 := k1.trans ((newH (H := H1) (o := .lst [.bl b7, .bl b8, .bl b9]) n2).trans (newH (o := .lst ([.bl b0, .bl b1, .bl b2, .bl b3, .bl b4, .bl b5, .bl b6] ++ [.bl b7, .bl b8, .bl b9])) x2))
    have a2 : upd (upd H1 m2 (.lst [.bl b7, .bl b8, .bl b9])) l2 (.lst ([.bl b0, .bl b1, .bl b2, .bl b3, .bl b4, .bl b5, .bl b6] ++ [.bl b7, .bl b8, .bl b9])) l2 = some (.lst [.bl b0, .bl b1, .bl b2, .bl b3, .bl b4, .bl b5, .bl b6, .bl b7, .bl b8, .bl b9]) := upd_same
    generalize upd (upd H1 m2 (.lst [.bl b7, .bl b8, .bl b9])) l2 (.lst ([.bl b0, .bl b1, .bl b2, .bl b3, .bl b4, .bl b5, .bl b6] ++ [.bl b7, .bl b8, .bl b9])) = H2 at k2 a2 ⊢
    have d2 := k2 _ _ hdd
    refine ⟨_, rfl, ?_⟩
    refine ⟨_, rfl, D, _, .ref r.c10, b10, dd, fs, rfl, fun u h => h, kg.x, hz, hf, d2, h10, ⟨_, rfl, D, _, .ref r.c11, b11, dd, fs, rfl, fun u h => h, kg.x, hz, hf, d2, h11, ⟨_, rfl, D, _, .ref r.c12, b12, dd, fs, rfl, fun u h => h, kg.x, hz, hf, d2, h12, by show 3 ≤ sizeLine; decide, fun m3 n3 => ?_⟩⟩⟩
    have a2' := newH (H := H2) (o := .lst [.bl b10, .bl b11, .bl b12]) n3 _ _ a2
    refine ⟨_, _, _, _, rfl, rfl, a2', upd_same, by show 10 + 3 ≤ sizeLine; decide, fun l3 x3 => ?_⟩
    have k3 := k2.trans ((newH (H := H2) (o := .lst [.bl b10, .bl b11, .bl b12]) n3).trans (newH (o := .lst ([.bl b0, .bl b1, .bl b2, .bl b3, .bl b4, .bl b5, .bl b6, .bl b7, .bl b8, .bl b9] ++ [.bl b10, .bl b11, .bl b12])) x3))
    have a3 : upd (upd H2 m3 (.lst [.bl b10, .bl b11, .bl b12])) l3 (.lst ([.bl b0, .bl b1, .bl b2, .bl b3, .bl b4, .bl b5, .bl b6, .bl b7, .bl b8, .bl b9] ++ [.bl b10, .bl b11, .bl b12])) l3 = some (.lst [.bl b0, .bl b1, .bl b2, .bl b3, .bl b4, .bl b5, .bl b6, .bl b7, .bl b8, .bl b9, .bl b10, .bl b11, .bl b12]) := upd_same
    generalize upd (upd H2 m3 (.lst [.bl b10, .bl b11, .bl b12])) l3 (.lst ([.bl b0, .bl b1, .bl b2, .bl b3, .bl b4, .bl b5, .bl b6, .bl b7, .bl b8, .bl b9] ++ [.bl b10, .bl b11, .bl b12])) = H3 at k3 a3 ⊢
    have d3 := k3 _ _ hdd
    refine ⟨_, rfl, ?_⟩
    refine ⟨_, rfl, D, _, .ref r.c13, b13, dd, fs, rfl, fun u h => h, kg.x, hz, hf, d3, h13, ⟨_, rfl, D, _, .ref r.c14, b14, dd, fs, rfl, fun u h => h, kg.x, hz, hf, d3, h14, ⟨_, rfl, D, _, .ref r.c15, b15, dd, fs, rfl, fun u h => h, kg.x, hz, hf, d3, h15, by show 3 ≤ sizeLine; decide, fun m4 n4 => ?_⟩⟩⟩
    have a3' := newH (H := H3) (o := .lst [.bl b13, .bl b14, .bl b15]) n4 _ _ a3
    refine ⟨_, _, _, _, rfl, rfl, a3', upd_same, by show 13 + 3 ≤ sizeLine; decide, fun l4 x4 => ?_⟩
    have k4 := k3.trans ((newH (H := H3) (o := .lst [.bl b13, .bl b14, .bl b15]) n4).trans (newH (o := .lst ([.bl b0, .bl b1, .bl b2, .bl b3, .bl b4, .bl b5, .bl b6, .bl b7, .bl b8, .bl b9, .bl b10, .bl b11, .bl b12] ++ [.bl b13, .bl b14, .bl b15])) x4))
    have a4 : upd (upd H3 m4 (.lst [.bl b13, .bl b14, .bl b15])) l4 (.lst ([.bl b0, .bl b1, .bl b2, .bl b3, .bl b4, .bl b5, .bl b6, .bl b7, .bl b8, .bl b9, .bl b10, .bl b11, .bl b12] ++ [.bl b13, .bl b14, .bl b15])) l4 = some (.lst [.bl b0, .bl b1, .bl b2, .bl b3, .bl b4, .bl b5, .bl b6, .bl b7, .bl b8, .bl b9, .bl b10, .bl b11, .bl b12, .bl b13, .bl b14, .bl b15]) := upd_same
    generalize upd (upd H3 m4 (.lst [.bl b13, .bl b14, .bl b15])) l4 (.lst ([.bl b0, .bl b1, .bl b2, .bl b3, .bl b4, .bl b5, .bl b6, .bl b7, .bl b8, .bl b9, .bl b10, .bl b11, .bl b12] ++ [.bl b13, .bl b14, .bl b15])) = H4 at k4 a4 ⊢
    have d4 := k4 _ _ hdd
    refine ⟨_, rfl, ?_⟩
    refine ⟨_, rfl, D, _, .ref r.c16, b16, dd, fs, rfl, fun u h => h, kg.x, hz, hf, d4, h16, ⟨_, rfl, D, _, .ref r.c17, b17, dd, fs, rfl, fun u h => h, kg.x, hz, hf, d4, h17, ⟨_, rfl, D, _, .ref r.c18, b18, dd, fs, rfl, fun u h => h, kg.x, hz, hf, d4, h18, by show 3 ≤ sizeLine; decide, fun m5 n5 => ?_⟩⟩⟩
    have a4' := newH (H := H4) (o := .lst [.bl b16, .bl b17, .bl b18]) n5 _ _ a4
    refine ⟨_, _, _, _, rfl, rfl, a4', upd_same, by show 16 + 3 ≤ sizeLine; decide, fun l5 x5 => ?_⟩
    have k5 := k4.trans ((newH (H := H4) (o := .lst [.bl b16, .bl b17, .bl b18]) n5).trans (newH (o := .lst ([.bl b0, .bl b1, .bl b2, .bl b3, .bl b4, .bl b5, .bl b6, .bl b7, .bl b8, .bl b9, .bl b10, .bl b11, .bl b12, .bl b13, .bl b14, .bl b15] ++ [.bl b16, .bl b17, .bl b18])) x5))
    have a5 : upd (upd H4 m5 (.lst [.bl b16, .bl b17, .bl b18])) l5 (.lst ([.bl b0, .bl b1, .bl b2, .bl b3, .bl b4, .bl b5, .bl b6, .bl b7, .bl b8, .bl b9, .bl b10, .bl b11, .bl b12, .bl b13, .bl b14, .bl b15] ++ [.bl b16, .bl b17, .bl b18])) l5 = some (.lst [.bl b0, .bl b1, .bl b2, .bl b3, .bl b4, .bl b5, .bl b6, .bl b7, .bl b8, .bl b9, .bl b10, .bl b11, .bl b12, .bl b13, .bl b14, .bl b15, .bl b16, .bl b17, .bl b18]) := upd_same
    generalize upd (upd H4 m5 (.lst [.bl b16, .bl b17, .bl b18])) l5 (.lst ([.bl b0, .bl b1, .bl b2, .bl b3, .bl b4, .bl b5, .bl b6, .bl b7, .bl b8, .bl b9, .bl b10, .bl b11, .bl b12, .bl b13, .bl b14, .bl b15] ++ [.bl b16, .bl b17, .bl b18])) = H5 at k5 a5 ⊢
    have d5 := k5 _ _ hdd
    refine ⟨_, rfl, D, _, .ref r.M, true, dd, fs, rfl, fun u h => h, kg.x, hz, hf, d5, kg.m, true, rfl, ?_⟩
    refine ⟨_, rfl, D, _, .type "ValueError", true, dd, fs, rfl, fun u h => h, kg.x, hz, hf, d5, kg.v, true, rfl, ?_⟩
    refine ⟨_, rfl, l5, rfl, ⟨_, SqL.of a5⟩, fun D1 nD => ?_⟩
    have e5 : ([.bl b0, .bl b1, .bl b2, .bl b3, .bl b4, .bl b5, .bl b6, .bl b7, .bl b8, .bl b9, .bl b10, .bl b11, .bl b12, .bl b13, .bl b14, .bl b15, .bl b16, .bl b17, .bl b18] : List V) = [b0, b1, b2, b3, b4, b5, b6, b7, b8, b9, b10, b11, b12, b13, b14, b15, b16, b17, b18].map V.bl := rfl
    rw [e5] at a5
    have el19 : ([b0, b1, b2, b3, b4, b5, b6, b7, b8, b9, b10, b11, b12, b13, b14, b15, b16, b17, b18] : List Bool).length = 19 := rfl
    generalize [b0, b1, b2, b3, b4, b5, b6, b7, b8, b9, b10, b11, b12, b13, b14, b15, b16, b17, b18] = bs at a5 one el19
    refine lc_list (K := K) (a := l5) (xs := bs.map V.bl) (fun i H' => Same H5 H' ∧ H' D1 = some (.lst (List.replicate ((bs.take i).filter id).length (V.int 1)))) ⟨newH nD, upd_same⟩ (fun i H' _ ⟨s, _⟩ => SqL.of (s _ _ a5)) ?_ ?_
    · rintro i y H6 hi ⟨s6, hd⟩
      obtain ⟨b, hb, rfl⟩ := bl_at hi
      refine ⟨rfl, ?_⟩
      refine ⟨_, rfl, b, rfl, ?_⟩
      cases b with
      | false =>
        refine iteF ⟨s6, ?_⟩
        rw [ones_more hb, if_neg Bool.false_ne_true, List.append_nil]
        exact hd
      | true =>
        refine iteT ⟨_, hd, ?_, updN s6 nD, ?_⟩
        · rw [List.length_replicate]
          have h1 : ((bs.take i).filter id).length ≤ (bs.take i).length := List.length_filter_le _ _
          have h2 : (bs.take i).length ≤ bs.length := List.length_take_le' _ _
          exact Nat.lt_of_le_of_lt (by omega : _ ≤ 19) (by decide)
        · rw [upd_same, ones_more hb, if_pos rfl]
    · rintro H6 ⟨s6, hd⟩
      have el : (bs.map V.bl).length = bs.length := List.length_map ..
      rw [el, List.take_length, one] at hd
      exact ⟨D1, _, rfl, .inl (SqL.of hd), rfl, k H6 (k5.trans s6)⟩
end
section
variable {P : Program} {w : World} {K : PySem.W.Frag} {mg : Str → Option Value} {base : Heap} {cl : Nat → Addr}
theorem okb__law_box (S : Al P K mg cl) : ∃ f fd, FnOk P w K mg base CX0 1 f fd ["_law_script"] (spBox K) ∧ mg "_law_box" = some (.ref f) ∧ PySem.W.keepIn K (.ref f) = true ∧ Binds K fd ["_law_script"] [] := by
  obtain ⟨f, fd, F, i, b⟩ := S.f__law_box
  refine ⟨f, fd, ?_, i, F.kp, b⟩
  refine F.ok sc__law_box (fun vs H Q E h => ?_) (fun cdv A outer s H vs Q E hr h => ?_)
  · obtain ⟨a, ns, rfl, _⟩ := h
    rfl
  · obtain ⟨a, ns, rfl, hS, hlen, k⟩ := h
    refine ⟨_, pss_one (ps_ret (pe_lst (pa_cons (pe_lc (own := [("_law_cell", 1)]) (g := gName 1) (tt := tYes) rfl sc__law_box.nd (pi_list (pe_slice sl_list (pv 0) po_none (po_some pe_int))) (blkOk_by (own := [("_law_cell", 1)]) (N := ["_law_script", "_law_cell"]) (sc := defScope s__law_box) (by decide +kernel))
          (fun _ _ _ _ _ => pg_name (i := 1) sc__law_box.nd rfl (Or.inl rfl)) (fun _ _ _ _ _ => pts_nil)
          (fun _ _ _ _ _ => pe_callB call_abs (by rfl) S.B.abs_ (by decide +kernel) (pa_cons (pe_callTy call_int1 (by rfl) S.B.int_ (by decide +kernel) (pa_cons (pv 1) pa_nil)) pa_nil)))
        (pa_cons pe_int (pa_cons pe_int (pa_cons pe_int pa_nil)))))), ?_⟩
    refine ⟨_, rfl, 63, rfl, a, _, rfl, hS, fun p hp => ?_⟩
    obtain ⟨ms, em, lm⟩ := cut_vI ns none (some 63)
    rw [show ns.map V.int = vI ns from rfl, em]
    refine ⟨p, rfl, ⟨_, SqL.of upd_same⟩, fun D hD => ?_⟩
    have s1 := newH (H := H) (o := .lst (vI ms)) hp
    have hp1 : upd H p (.lst (vI ms)) p = some (.lst (vI ms)) := upd_same
    have hD0 := s1.free hD
    generalize upd H p (.lst (vI ms)) = H1 at hD s1 hp1
    refine lc_list (K := K) (a := p) (xs := vI ms) (fun i H' => Same H1 H' ∧ ∃ cs, H' D = some (.lst (vI cs)) ∧ cs.length = i ∧ ∀ x ∈ cs, 0 ≤ x) ⟨newH hD, [], upd_same, rfl, fun _ h => nomatch h⟩ (fun i H' _ ⟨s, _⟩ => SqL.of (s _ _ hp1)) ?_ ?_
    · rintro i y H2 hi ⟨s2, cs, hd, el, hc⟩
      obtain ⟨x, hx, rfl⟩ := vI_at hi
      have hi' := (List.getElem?_eq_some_iff.mp hx).1
      refine ⟨rfl, yesT (iteT ?_)⟩
      refine ⟨_, rfl, .inl ⟨_, rfl, _, rfl, ?_⟩⟩
      refine ⟨_, hd, ?_, updN s2 hD, cs ++ [if x < 0 then -x else x], ?_, by simp [el], ?_⟩
      · rw [vI_len, el]
        exact Nat.lt_of_le_of_lt (by omega : i ≤ 63) (by decide)
      · rw [upd_same]
        unfold vI
        rw [List.map_append]
        rfl
      · intro z hz
        rcases List.mem_append.mp hz with h | h
        · exact hc z h
        · rw [List.mem_singleton.mp h]
          split <;> omega
    · rintro H2 ⟨s2, cs, hd, el, hc⟩
      refine ⟨by show 4 ≤ sizeLine; decide, fun b hb => ?_⟩
      have nDb : D ≠ b := ne_of_none hd hb
      refine k _ b D cs (s1.trans (updM s2 hb)) nDb upd_same (by rw [upd_ne nDb]; exact hd) hc
theorem ok__law_take (S : Al P K mg cl) : ∃ f fd, FnOk P w K mg base CX0 1 f fd ["_law_box_here", "_law_many"] (spD cl D__law_take) ∧ mg "_law_take" = some (.ref f) ∧ PySem.W.keepIn K (.ref f) = true ∧ Binds K fd ["_law_box_here", "_law_many"] [] := by
  obtain ⟨f, fd, F, i, b⟩ := S.f__law_take
  refine ⟨f, fd, ?_, i, F.kp, b⟩
  refine Fun.okD F sc__law_take [] [0, 1] 2 Db__law_take rfl (by decide) fun cdv A outer s H E hr => ?_
  exact ⟨_, pss_cons (ps_if (pt_cmpR op_gt (pe_ix ix_list (pv 0) pe_int (fun _ _ => rfl)) pe_int (nomark _)) (pss_cons (ps_set (i := 2) sc__law_take.nd rfl (Or.inl rfl) (pe_op op_mod (pe_callTy call_int1 (by rfl) S.B.int_ (by decide +kernel) (pa_cons (pe_ix ix_list (pv 0) pe_int (fun _ _ => rfl)) pa_nil)) (pv 1)))
      (pss_cons (ps_asg (pe_op op_fdivB (pe_ix ix_list (pv 0) pe_int (fun _ _ => rfl)) (pv 1)) (pg_sub (pv 0) pe_int set_list))
      (pss_one (ps_ret (pv 2))))) pss_nil)
      (pss_cons (ps_set (i := 3) sc__law_take.nd rfl (Or.inl rfl) pe_int)
      (pss_cons (ps_if (pt_cmpR op_lt (pe_ix ix_list (pv 0) pe_int (fun _ _ => rfl)) (pe_callB call_len_seq (by rfl) S.B.len_ PySem.boot_len (pa_cons (pe_ix ix_list (pv 0) pe_int (fun _ _ => rfl)) pa_nil)) (nomark _)) (pss_cons (ps_set (i := 3) sc__law_take.nd rfl (Or.inl rfl) (pe_ix ix_list (pe_ix ix_list (pv 0) pe_int (fun _ _ => rfl)) (pe_ix ix_list (pv 0) pe_int (fun _ _ => rfl)) (fun _ _ => rfl)))
      (pss_one (ps_asg (pe_op op_add (pe_ix ix_list (pv 0) pe_int (fun _ _ => rfl)) pe_int) (pg_sub (pv 0) pe_int set_list)))) pss_nil)
      (pss_cons (ps_if (pt_cmpR op_ge (pv 3) (pe_op op_pow pe_int pe_int) (nomark _)) (pss_cons (ps_asg (pe_op op_fdivB (pv 3) (pv 1)) (pg_sub (pv 0) pe_int set_list))
      (pss_one (ps_ret (pe_op op_mod (pe_callTy call_int1 (by rfl) S.B.int_ (by decide +kernel) (pa_cons (pv 3) pa_nil)) (pv 1))))) pss_nil)
      (pss_cons (ps_asg (pe_op op_mod (pe_callTy call_int1 (by rfl) S.B.int_ (by decide +kernel) (pa_cons (pe_op op_add (pe_op op_mul (pe_ix ix_list (pv 0) pe_int (fun _ _ => rfl)) pe_int) (pv 3)) pa_nil)) pe_int) (pg_sub (pv 0) pe_int set_list))
      (pss_one (ps_ret (pe_op op_mod (pe_callTy call_int1 (by rfl) S.B.int_ (by decide +kernel) (pa_cons (pe_op op_fdivB (pe_op op_mod (pe_callTy call_int1 (by rfl) S.B.int_ (by decide +kernel) (pa_cons (pe_op op_mul (pe_ix ix_list (pv 0) pe_int (fun _ _ => rfl)) pe_int) pa_nil)) pe_int) pe_int) pa_nil)) (pv 1)))))))),
    (ss_seq (ss_if (st_test (se_op oi_gt (se_op oi_ixL se_var (se_const rfl)) (se_const rfl))) (ss_seq (ss_asg (i := 2) (by decide) (se_op oi_mod (se_b1 bi_int (se_op oi_ixL se_var (se_const rfl))) se_var))
      (ss_seq (ss_setI (SE.sf (se_op oi_div (se_op oi_ixL se_var (se_const rfl)) se_var)) se_var (se_const rfl))
      (ss_ret (np := 2) se_var))) ss_nil)
      (ss_seq (ss_asg (i := 3) (by decide) (se_const rfl))
      (ss_seq (ss_if (st_test (se_op oi_lt (se_op oi_ixL se_var (se_const rfl)) (se_b1 bi_len (se_op oi_ixL se_var (se_const rfl))))) (ss_seq (ss_asg (i := 3) (by decide) (se_op oi_ixL (se_op oi_ixL se_var (se_const rfl)) (se_op oi_ixL se_var (se_const rfl))))
      (ss_setI (SE.sf (se_op oi_add (se_op oi_ixL se_var (se_const rfl)) (se_const rfl))) se_var (se_const rfl))) ss_nil)
      (ss_seq (ss_if (st_test (se_op oi_ge se_var (se_op oi_pow (se_const rfl) (se_const rfl)))) (ss_seq (ss_setI (SE.sf (se_op oi_div se_var se_var)) se_var (se_const rfl))
      (ss_ret (np := 2) (se_op oi_mod (se_b1 bi_int se_var) se_var))) ss_nil)
      (ss_seq (ss_setI (SE.sf (se_op oi_mod (se_b1 bi_int (se_op oi_add (se_op oi_mul (se_op oi_ixL se_var (se_const rfl)) (se_const rfl)) se_var)) (se_const rfl))) se_var (se_const rfl))
      (ss_ret (np := 2) (se_op oi_mod (se_b1 bi_int (se_op oi_div (se_op oi_mod (se_b1 bi_int (se_op oi_mul (se_op oi_ixL se_var (se_const rfl)) (se_const rfl))) (se_const rfl)) (se_const rfl))) se_var)))))))⟩
theorem ok__law_words (S : Al P K mg cl) : ∃ f fd, FnOk P w K mg base CX0 2 f fd ["_law_box_here", "_law_n", "_law_least"] (spD cl D__law_words) ∧ mg "_law_words" = some (.ref f) ∧ PySem.W.keepIn K (.ref f) = true ∧ Binds K fd ["_law_box_here", "_law_n", "_law_least"] [] := by
  obtain ⟨f, fd, F, i, b⟩ := S.f__law_words
  obtain ⟨f0, fd0, o0, i0, j0, b0⟩ := ok__law_take (P := P) (w := w) (base := base) S
  refine ⟨f, fd, ?_, i, F.kp, b⟩
  refine Fun.okD F sc__law_words [] [0, 1, 2] 2 Db__law_words rfl (by decide) fun cdv A outer s H E hr => ?_
  have hr1 : Room 1 _ := hr.mono (by decide)
  exact ⟨_, pss_cons (ps_set (i := 3) sc__law_words.nd rfl (Or.inr rfl) (pe_op op_add (pv 2) (pe_call o0 hr1 rfl i0 j0 b0 .nil pass0 (pa_cons (pv 0) (pa_cons (pe_op op_sub (pe_ix ix_list (pe_lst (pa_cons pe_int (pa_cons pe_int (pa_cons pe_int (pa_cons pe_int (pa_cons pe_int (pa_cons pe_int (pa_cons pe_int pa_nil)))))))) (pv 1) (fun _ _ => rfl)) (pv 2)) pa_nil)))))
      (pss_one (ps_ret (pe_lc (own := [("_law_word", 4)]) rfl sc__law_words.nd (pi_range1 (by rfl) S.B.range_ (pa_cons (pv 1) pa_nil)) (blkOk_by (own := [("_law_word", 4)]) (N := N__law_words) (sc := defScope s__law_words) (by decide +kernel)) (fun _ _ _ _ _ => (pg_name (i := 4) sc__law_words.nd rfl (Or.inl rfl))) (fun _ _ _ _ _ => (pts_one (pt_cmpR op_eq (pe_op op_mod (pe_callTy call_int1 (by rfl) S.B.int_ (by decide +kernel) (pa_cons (pe_op op_fdivB (pv 3) (pe_ix ix_list (pe_lst (pa_cons pe_int (pa_cons pe_int (pa_cons pe_int (pa_cons pe_int (pa_cons pe_int (pa_cons pe_int pa_nil))))))) (pv 4) (fun _ _ => rfl))) pa_nil)) pe_int) pe_int (nomark _)))) (fun _ _ _ _ _ => (pv 4))))),
    (ss_seq (ss_asg (i := 3) (by decide) (se_op oi_add se_var (se_call rfl (sr_cons se_var (sr_cons (se_op oi_sub (se_op oi_ixL (se_lst (sa_cons (SE.sf (se_const rfl)) (sa_cons (SE.sf (se_const rfl)) (sa_cons (SE.sf (se_const rfl)) (sa_cons (SE.sf (se_const rfl)) (sa_cons (SE.sf (se_const rfl)) (sa_cons (SE.sf (se_const rfl)) (sa_cons (SE.sf (se_const rfl)) sa_nil)))))))) se_var) se_var) sr_nil)))))
      (ss_ret (np := 3) (se_lc (vs := [4]) (by decide) (si_range1 se_var) (sg_name (i := 4) (by decide)) (by decide) (st_test (se_op oi_eq (se_op oi_mod (se_b1 bi_int (se_op oi_div se_var (se_op oi_ixL (se_lst (sa_cons (SE.sf (se_const rfl)) (sa_cons (SE.sf (se_const rfl)) (sa_cons (SE.sf (se_const rfl)) (sa_cons (SE.sf (se_const rfl)) (sa_cons (SE.sf (se_const rfl)) (sa_cons (SE.sf (se_const rfl)) sa_nil))))))) se_var))) (se_const rfl)) (se_const rfl))) (SE.sf (SE.imp se_var)))))⟩
theorem ok__law_rows (S : Al P K mg cl) : ∃ f fd, FnOk P w K mg base CX0 3 f fd ["_law_box_here", "_law_n", "_law_least"] (spD cl D__law_rows) ∧ mg "_law_rows" = some (.ref f) ∧ PySem.W.keepIn K (.ref f) = true ∧ Binds K fd ["_law_box_here", "_law_n", "_law_least"] [] := by
  obtain ⟨f, fd, F, i, b⟩ := S.f__law_rows
  obtain ⟨f0, fd0, o0, i0, j0, b0⟩ := ok__law_take (P := P) (w := w) (base := base) S
  obtain ⟨f1, fd1, o1, i1, j1, b1⟩ := ok__law_words (P := P) (w := w) (base := base) S
  refine ⟨f, fd, ?_, i, F.kp, b⟩
  refine Fun.okD F sc__law_rows [] [0, 1, 2] 2 Db__law_rows rfl (by decide) fun cdv A outer s H E hr => ?_
  have hr1 : Room 1 _ := hr.mono (by decide)
  have hr2 : Room 2 _ := hr.mono (by decide)
  exact ⟨_, pss_cons (ps_set (i := 3) sc__law_rows.nd rfl (Or.inl rfl) (pe_lst pa_nil))
      (pss_cons (ps_for PassesOwn.never rfl (pi_range1 (by rfl) S.B.range_ (pa_cons (pv 1) pa_nil)) (pg_name (i := 4) sc__law_rows.nd rfl (Or.inl rfl)) (pss_one (ps_if (pt_cmpR op_eq (pe_call o0 hr1 rfl i0 j0 b0 .nil pass0 (pa_cons (pv 0) (pa_cons pe_int pa_nil))) pe_int (nomark _)) (pss_one (ps_expr (pe_bm PySem.F.plainAttrs_list PySem.F.slot_list_append PySem.F.type_list_append mt_append (pv 3) (pa_cons (pe_lst (pa_cons (pe_call o0 hr1 rfl i0 j0 b0 .nil pass0 (pa_cons (pv 0) (pa_cons (pv 1) pa_nil))) pa_nil)) pa_nil)))) (pss_one (ps_expr (pe_bm PySem.F.plainAttrs_list PySem.F.slot_list_append PySem.F.type_list_append mt_append (pv 3) (pa_cons (pe_call o1 hr2 rfl i1 j1 b1 .nil pass0 (pa_cons (pv 0) (pa_cons (pv 1) (pa_cons (pv 2) pa_nil)))) pa_nil)))))))
      (pss_one (ps_ret (pv 3)))),
    (ss_seq (ss_asg (i := 3) (by decide) (se_lst sa_nil))
      (ss_seq (ss_for (si_range1 se_var) (sg_name (i := 4) (by decide)) (ss_if (st_test (se_op oi_eq (se_call rfl (sr_cons se_var (sr_cons (se_const rfl) sr_nil))) (se_const rfl))) (ss_expr (se_plc mp_append se_var (sa_cons (SE.sf (se_lst (sa_cons (SE.sf (se_call rfl (sr_cons se_var (sr_cons se_var sr_nil)))) sa_nil))) sa_nil))) (ss_expr (se_plc mp_append se_var (sa_cons (SE.sf (se_call rfl (sr_cons se_var (sr_cons se_var (sr_cons se_var sr_nil))))) sa_nil)))))
      (ss_ret (np := 3) se_var)))⟩
theorem ok_is_size (S : Al P K mg cl) : ∃ f fd, FnOk P w K mg base CX0 1 f fd ["size"] (spD cl D_is_size) ∧ mg "is_size" = some (.ref f) ∧ PySem.W.keepIn K (.ref f) = true ∧ Binds K fd ["size"] [] := by
  obtain ⟨f, fd, F, i, b⟩ := S.f_is_size
  refine ⟨f, fd, ?_, i, F.kp, b⟩
  refine Fun.okD F sc_is_size [] [0] 0 Db_is_size rfl (by decide) fun cdv A outer s H E hr => ?_
  exact ⟨_, pss_one (ps_ret (pe_chain op_le op_le pe_int (pv 0) (ClX.pe_cval (pe_glob rfl S.g_Table (v := .ref _) rfl)))),
    (ss_ret (np := 1) (se_chain oi_le oi_le (se_const rfl) se_var (se_cval (v := .int 6) (c := 0) S.r_Table S.cv_Table_MOST.choose_spec ⟨_, rfl⟩ rfl)))⟩
theorem okg_check_size (S : Al P K mg cl) {f : Addr} {fd : FuncData} (F : Fun K "check_size" "check_size" s_check_size f fd) : FnOk P w K mg base CX0 2 f fd ["size"] (spD cl D_check_size) := by
  obtain ⟨f0, fd0, o0, i0, j0, b0⟩ := ok_is_size (P := P) (w := w) (base := base) S
  refine Fun.okD F sc_check_size [] [0] 0 Db_check_size rfl (by decide) fun cdv A outer s H E hr => ?_
  have hr1 : Room 1 _ := hr.mono (by decide)
  exact ⟨_, pss_one (ps_if (pt_not (pt_val (pe_call o0 hr1 rfl i0 j0 b0 .nil pass0 (pa_cons (pv 0) pa_nil)))) (pss_one ps_never) pss_nil),
    (ss_if (st_not (st_val (se_call rfl (sr_cons se_var sr_nil)))) ss_never ss_nil)⟩
theorem ok_check_size (S : Al P K mg cl) : ∃ f fd, FnOk P w K mg base CX0 2 f fd ["size"] (spD cl D_check_size) ∧ mg "check_size" = some (.ref f) ∧ PySem.W.keepIn K (.ref f) = true ∧ Binds K fd ["size"] [] := by
  obtain ⟨f, fd, F, i, b⟩ := S.f_check_size
  exact ⟨f, fd, okg_check_size S F, i, F.kp, b⟩
theorem ok_is_word (S : Al P K mg cl) : ∃ f fd, FnOk P w K mg base CX0 1 f fd ["word", "size"] (spD cl D_is_word) ∧ mg "is_word" = some (.ref f) ∧ PySem.W.keepIn K (.ref f) = true ∧ Binds K fd ["word", "size"] [] := by
  obtain ⟨f, fd, F, i, b⟩ := S.f_is_word
  refine ⟨f, fd, ?_, i, F.kp, b⟩
  refine Fun.okD F sc_is_word [] [0, 1] 0 Db_is_word rfl (by decide) fun cdv A outer s H E hr => ?_
  exact ⟨_, pss_one (ps_ret (pe_chain op_le op_lt pe_int (pv 0) (pv 1))),
    (ss_ret (np := 2) (se_chain oi_le oi_lt (se_const rfl) se_var se_var))⟩
theorem ok_all_words (S : Al P K mg cl) : ∃ f fd, FnOk P w K mg base CX0 2 f fd ["words", "size"] (spD cl D_all_words) ∧ mg "all_words" = some (.ref f) ∧ PySem.W.keepIn K (.ref f) = true ∧ Binds K fd ["words", "size"] [] := by
  obtain ⟨f, fd, F, i, b⟩ := S.f_all_words
  obtain ⟨f0, fd0, o0, i0, j0, b0⟩ := ok_is_word (P := P) (w := w) (base := base) S
  refine ⟨f, fd, ?_, i, F.kp, b⟩
  refine Fun.okD F sc_all_words [] [0, 1] 1 Db_all_words rfl (by decide) fun cdv A outer s H E hr => ?_
  have hr1 : Room 1 _ := hr.mono (by decide)
  exact ⟨_, pss_one (ps_ret (pe_callB (cr_all rfl) (by rfl) S.B.all_ (by decide +kernel) (pa_cons (pe_lc (own := [("word", 2)]) rfl sc_all_words.nd (PI.alt (pi_list (pv 0)) (pi_tup (pv 0))) (blkOk_by (own := [("word", 2)]) (N := N_all_words) (sc := defScope s_all_words) (by decide +kernel)) (fun _ _ _ _ _ => (pg_name (i := 2) sc_all_words.nd rfl (Or.inl rfl))) (fun _ _ _ _ _ => pts_nil) (fun _ _ _ _ _ => (pe_call o0 hr1 rfl i0 j0 b0 .nil pass0 (pa_cons (pv 2) (pa_cons (pv 1) pa_nil))))) pa_nil))),
    (ss_ret (np := 2) (se_b1 bi_all (se_lc (vs := [2]) (by decide) (si_alt (si_list (SE.sf (SE.imp se_var))) (si_tup (SE.sf (SE.imp se_var)))) (sg_name (i := 2) (by decide)) (by decide) st_yes (SE.sf (se_call rfl (sr_cons se_var (sr_cons se_var sr_nil)))))))⟩
theorem ok_ascending (S : Al P K mg cl) : ∃ f fd, FnOk P w K mg base CX0 1 f fd ["words", "size"] (spD cl D_ascending) ∧ mg "ascending" = some (.ref f) ∧ PySem.W.keepIn K (.ref f) = true ∧ Binds K fd ["words", "size"] [] := by
  obtain ⟨f, fd, F, i, b⟩ := S.f_ascending
  refine ⟨f, fd, ?_, i, F.kp, b⟩
  refine Fun.okD F sc_ascending [] [0, 1] 1 Db_ascending rfl (by decide) fun cdv A outer s H E hr => ?_
  exact ⟨_, pss_one (ps_ret (pe_lc (own := [("word", 2)]) rfl sc_ascending.nd (pi_range1 (by rfl) S.B.range_ (pa_cons (pv 1) pa_nil)) (blkOk_by (own := [("word", 2)]) (N := N_ascending) (sc := defScope s_ascending) (by decide +kernel)) (fun _ _ _ _ _ => (pg_name (i := 2) sc_ascending.nd rfl (Or.inl rfl))) (fun _ _ _ _ _ => (pts_one (pt_cmpR op_in_seq (pv 2) (pv 0) (by rfl)))) (fun _ _ _ _ _ => (pv 2)))),
    (ss_ret (np := 2) (se_lc (vs := [2]) (by decide) (si_range1 se_var) (sg_name (i := 2) (by decide)) (by decide) (st_test (se_op (oi_inS (neg := false)) se_var se_var)) (SE.sf (SE.imp se_var))))⟩
theorem okg_Table___init__ (S : Al P K mg cl) {f : Addr} {fd : FuncData} (F : Fun K "__init__" "Table.__init__" s_Table___init__ f fd) : FnOk P w K mg base CX0 3 f fd ["self", "rows"] (spD cl D_Table___init__) := by
  obtain ⟨f0, fd0, o0, i0, j0, b0⟩ := ok_check_size (P := P) (w := w) (base := base) S
  obtain ⟨f1, fd1, o1, i1, j1, b1⟩ := ok_all_words (P := P) (w := w) (base := base) S
  obtain ⟨f2, fd2, o2, i2, j2, b2⟩ := ok_ascending (P := P) (w := w) (base := base) S
  refine Fun.okD F sc_Table___init__ [] [0, 1] 5 Db_Table___init__ rfl (by decide) fun cdv A outer s H E hr => ?_
  have hr1 : Room 1 _ := hr.mono (by decide)
  have hr2 : Room 2 _ := hr.mono (by decide)
  exact ⟨_, pss_cons (ps_set (i := 2) sc_Table___init__.nd rfl (Or.inr rfl) (pe_callB call_len_seq (by rfl) S.B.len_ PySem.boot_len (pa_cons (pv 1) pa_nil)))
      (pss_cons (ps_expr (pe_call o0 hr2 rfl i0 j0 b0 .nil pass0 (pa_cons (pv 2) pa_nil)))
      (pss_cons (ps_for PassesOwn.never rfl (pi_enum (by rfl) S.B.enumerate_ (pa_cons (pv 1) pa_nil)) (pg_tup (by rfl) (pgs_cons (pg_name (i := 3) sc_Table___init__.nd rfl (Or.inl rfl)) (pgs_cons (pg_name (i := 4) sc_Table___init__.nd rfl (Or.inl rfl)) pgs_nil))) (pss_one (ps_if (pt_not (pt_val (pe_call o1 hr2 rfl i1 j1 b1 .nil pass0 (pa_cons (pv 4) (pa_cons (pv 2) pa_nil))))) (pss_one ps_never) pss_nil)))
      (pss_cons (ps_fld (pv 0) (pv 2) rfl)
      (pss_cons (ps_fld (pv 0) (pe_callTy call_tuple_of (by rfl) S.B.tuple_ (by decide +kernel) (pa_cons (pe_lc (own := [("row", 4)]) rfl sc_Table___init__.nd (pi_list (pv 1)) (blkOk_by (own := [("row", 4)]) (N := N_Table___init__) (sc := defScope s_Table___init__) (by decide +kernel)) (fun _ _ _ _ _ => (pg_name (i := 4) sc_Table___init__.nd rfl (Or.inl rfl))) (fun _ _ _ _ _ => pts_nil) (fun _ _ _ _ _ => (pe_callTy call_tuple_of (by rfl) S.B.tuple_ (by decide +kernel) (pa_cons (pe_call o2 hr1 rfl i2 j2 b2 .nil pass0 (pa_cons (pv 4) (pa_cons (pv 2) pa_nil))) pa_nil)))) pa_nil)) rfl)
      (pss_one (ps_fld (pv 0) (pe_callTy call_tuple_of (by rfl) S.B.tuple_ (by decide +kernel) (pa_cons (pe_lc2 (own := [("told", 5), ("row", 4), ("out", 6)]) (vs1 := [6]) rfl sc_Table___init__.nd (pi_enumT (by rfl) S.B.enumerate_ (pa_cons (pe_fld (pv 0) rfl) pa_nil)) (blkOk_by (own := [("told", 5), ("row", 4), ("out", 6)]) (N := N_Table___init__) (sc := defScope s_Table___init__) (by decide +kernel)) (by decide) (fun _ _ _ _ _ => (pg_tup (by rfl) (pgs_cons (pg_name (i := 5) sc_Table___init__.nd rfl (Or.inl rfl)) (pgs_cons (pg_name (i := 4) sc_Table___init__.nd rfl (Or.inl rfl)) pgs_nil)))) (fun _ _ _ _ _ => pts_nil) (fun _ _ _ _ _ => (pi_tup (pv 4))) (fun _ _ _ _ _ => (pg_name (i := 6) sc_Table___init__.nd rfl (Or.inl rfl))) (fun _ _ _ _ _ => pts_nil) (fun _ _ _ _ _ => (pe_tup (pa_cons (pv 5) (pa_cons (pv 6) pa_nil))))) pa_nil)) rfl)))))),
    (ss_seq (ss_asg (i := 2) (by decide) (se_b1 bi_len se_var))
      (ss_seq (ss_expr (se_call rfl (sr_cons se_var sr_nil)))
      (ss_seq (ss_for (si_enum (SE.sf (SE.imp se_var))) (sg_tup (sgs_cons (sg_name (i := 3) (by decide)) (sgs_cons (sg_name (i := 4) (by decide)) sgs_nil))) (ss_if (st_not (st_val (se_call rfl (sr_cons (SE.fr se_var) (sr_cons se_var sr_nil))))) ss_never ss_nil))
      (ss_seq (ss_fld (i := 0) (c := 0) S.k_Table S.n_Table_size se_var)
      (ss_seq (ss_fld (i := 0) (c := 0) S.k_Table S.n_Table__rows (se_b1U bu_tuple (se_lc (vs := [4]) (by decide) (si_list (SE.sf (SE.imp se_var))) (sg_name (i := 4) (by decide)) (by decide) st_yes (SE.sf (se_b1U bu_tuple (se_call rfl (sr_cons (SE.fr se_var) (sr_cons se_var sr_nil))))))))
      (ss_fld (i := 0) (c := 0) S.k_Table S.n_Table__pairs (se_b1U bu_tuple (se_lc2 (vs := [5, 4, 6]) (vs1 := [6]) (by decide) (by decide) (si_enumT (SE.sf (se_fld (c := 0) S.k_Table S.n_Table__rows se_var))) (sg_tup (sgs_cons (sg_name (i := 5) (by decide)) (sgs_cons (sg_name (i := 4) (by decide)) sgs_nil))) (by decide) st_yes (si_tup (SE.sf (SE.imp se_var))) (sg_name (i := 6) (by decide)) (by decide) st_yes (SE.sf (se_tup (sa_cons (SE.sf se_var) (sa_cons (SE.sf se_var) sa_nil))))))))))))⟩
theorem ok_Table___init__ (S : Al P K mg cl) : ∃ f fd, FnOk P w K mg base CX0 3 f fd ["self", "rows"] (spD cl D_Table___init__) ∧ Mk K (cl 0) f ∧ Binds K fd ["self", "rows"] [] := by
  obtain ⟨f, fd, F, i, b⟩ := S.f_Table___init__
  exact ⟨f, fd, okg_Table___init__ S F, i, b⟩
theorem ok__law_is_int (S : Al P K mg cl) : ∃ f fd, FnOk P w K mg base CX0 1 f fd ["_law_value"] (spD cl D__law_is_int) ∧ mg "_law_is_int" = some (.ref f) ∧ PySem.W.keepIn K (.ref f) = true ∧ Binds K fd ["_law_value"] [] := by
  obtain ⟨f, fd, F, i, b⟩ := S.f__law_is_int
  refine ⟨f, fd, ?_, i, F.kp, b⟩
  refine Fun.okD F sc__law_is_int [] [0] 0 Db__law_is_int rfl (by decide) fun cdv A outer s H E hr => ?_
  exact ⟨_, pss_one (ps_ret (pe_and (pe_callB call_isi (by rfl) S.B.isinstance_ (by decide +kernel) (pa_cons (pv 0) (pa_cons (pe_bltn (v := .ty "int") (u := .type "int") (by rfl) S.B.int_ (by decide +kernel) rfl) pa_nil))) (pe_one (pe_not (pe_callB call_isi (by rfl) S.B.isinstance_ (by decide +kernel) (pa_cons (pv 0) (pa_cons (pe_bltn (v := .ty "bool") (u := .type "bool") (by rfl) S.B.bool_ (by decide +kernel) rfl) pa_nil))))))),
    (ss_ret (np := 1) (se_and (se_isI se_var) (se_not (se_isI se_var))))⟩
theorem ok_Table_rows (S : Al P K mg cl) : ∃ f fd, FnOk P w K mg base CX0 1 f fd ["self"] (spD cl D_Table_rows) ∧ Meth K (cl 0) "rows" f ∧ Binds K fd ["self"] [] := by
  obtain ⟨f, fd, F, i, b⟩ := S.f_Table_rows
  refine ⟨f, fd, ?_, i, b⟩
  refine Fun.okD F sc_Table_rows [] [0] 1 Db_Table_rows rfl (by decide) fun cdv A outer s H E hr => ?_
  exact ⟨_, pss_one (ps_ret (pe_lc (own := [("row", 1)]) rfl sc_Table_rows.nd (pi_tup (pe_fld (pv 0) rfl)) (blkOk_by (own := [("row", 1)]) (N := N_Table_rows) (sc := defScope s_Table_rows) (by decide +kernel)) (fun _ _ _ _ _ => (pg_name (i := 1) sc_Table_rows.nd rfl (Or.inl rfl))) (fun _ _ _ _ _ => pts_nil) (fun _ _ _ _ _ => (pe_callTy call_list_of (by rfl) S.B.list_ (by decide +kernel) (pa_cons (pv 1) pa_nil))))),
    (ss_ret (np := 1) (se_lc (vs := [1]) (by decide) (si_tup (SE.sf (se_fld (c := 0) S.k_Table S.n_Table__rows se_var))) (sg_name (i := 1) (by decide)) (by decide) st_yes (SE.sf (se_b1N bn_list se_var))))⟩
theorem ok__law_is_words (S : Al P K mg cl) : ∃ f fd, FnOk P w K mg base CX0 2 f fd ["_law_value"] (spD cl D__law_is_words) ∧ mg "_law_is_words" = some (.ref f) ∧ PySem.W.keepIn K (.ref f) = true ∧ Binds K fd ["_law_value"] [] := by
  obtain ⟨f, fd, F, i, b⟩ := S.f__law_is_words
  obtain ⟨f0, fd0, o0, i0, j0, b0⟩ := ok__law_is_int (P := P) (w := w) (base := base) S
  refine ⟨f, fd, ?_, i, F.kp, b⟩
  refine Fun.okD F sc__law_is_words [] [0] 1 Db__law_is_words rfl (by decide) fun cdv A outer s H E hr => ?_
  have hr1 : Room 1 _ := hr.mono (by decide)
  exact ⟨_, pss_cons (ps_if (pt_not (pt_val (pe_callB call_isi (by rfl) S.B.isinstance_ (by decide +kernel) (pa_cons (pv 0) (pa_cons (pe_bltn (v := .ty "list") (u := .type "list") (by rfl) S.B.list_ (by decide +kernel) rfl) pa_nil))))) (pss_one (ps_ret pe_bl)) pss_nil)
      (pss_cons (ps_for PassesOwn.never rfl (pi_list (pv 0)) (pg_name (i := 1) sc__law_is_words.nd rfl (Or.inl rfl)) (pss_one (ps_if (pt_not (pt_val (pe_call o0 hr1 rfl i0 j0 b0 .nil pass0 (pa_cons (pv 1) pa_nil)))) (pss_one (ps_ret pe_bl)) pss_nil)))
      (pss_one (ps_ret pe_bl))),
    (ss_seq (ss_if (st_not (st_val (se_isI se_var))) (ss_ret (np := 1) (se_const rfl)) ss_nil)
      (ss_seq (ss_for (si_list (SE.sf (SE.imp se_var))) (sg_name (i := 1) (by decide)) (ss_if (st_not (st_val (se_call rfl (sr_cons se_var sr_nil)))) (ss_ret (np := 1) (se_const rfl)) ss_nil))
      (ss_ret (np := 1) (se_const rfl))))⟩
theorem ok__law_same (S : Al P K mg cl) : ∃ f fd, FnOk P w K mg base CX0 3 f fd ["_law_table", "_law_rows_here"] (spD cl D__law_same) ∧ mg "_law_same" = some (.ref f) ∧ PySem.W.keepIn K (.ref f) = true ∧ Binds K fd ["_law_table", "_law_rows_here"] [] := by
  obtain ⟨f, fd, F, i, b⟩ := S.f__law_same
  obtain ⟨f0, fd0, o0, i0, j0, b0⟩ := ok__law_is_int (P := P) (w := w) (base := base) S
  obtain ⟨f1, fd1, o1, i1, b1⟩ := ok_Table_rows (P := P) (w := w) (base := base) S
  obtain ⟨f2, fd2, o2, i2, j2, b2⟩ := ok__law_is_words (P := P) (w := w) (base := base) S
  refine ⟨f, fd, ?_, i, F.kp, b⟩
  refine Fun.okD F sc__law_same [] [0, 1] 2 Db__law_same rfl (by decide) fun cdv A outer s H E hr => ?_
  have hr1 : Room 1 _ := hr.mono (by decide)
  have hr2 : Room 2 _ := hr.mono (by decide)
  exact ⟨_, pss_cons (ps_if (PW.pt (pw_or (pt_not (pt_val (pe_callB call_isAny (by rfl) S.B.isinstance_ (by decide +kernel) (pa_cons (pv 0) (pa_cons (pe_glob rfl S.g_Table (v := .ref _) rfl) pa_nil))))) (pw_or (pt_not (pt_val (pe_call o0 hr1 rfl i0 j0 b0 .nil pass0 (pa_cons (pe_fld (pv 0) rfl) pa_nil)))) (pw_or1 (pt_cmpR (op_neD hr.units) (pe_fld (pv 0) rfl) (pe_callB call_len_seq (by rfl) S.B.len_ PySem.boot_len (pa_cons (pv 1) pa_nil)) (nomark _)))))) (pss_one (ps_ret pe_bl)) pss_nil)
      (pss_cons (ps_set (i := 2) sc__law_same.nd rfl (Or.inl rfl) (pe_meth0 (pv 0) S.k_Table i1 o1 hr1 b1 .nil pass0))
      (pss_cons (ps_if (PW.pt (pw_or (pt_not (pt_val (pe_callB call_isi (by rfl) S.B.isinstance_ (by decide +kernel) (pa_cons (pv 2) (pa_cons (pe_bltn (v := .ty "list") (u := .type "list") (by rfl) S.B.list_ (by decide +kernel) rfl) pa_nil))))) (pw_or1 (pt_cmpR op_ne (pe_callB call_len_seq (by rfl) S.B.len_ PySem.boot_len (pa_cons (pv 2) pa_nil)) (pe_callB call_len_seq (by rfl) S.B.len_ PySem.boot_len (pa_cons (pv 1) pa_nil)) (nomark _))))) (pss_one (ps_ret pe_bl)) pss_nil)
      (pss_cons (ps_for PassesOwn.never rfl (pi_range1 (by rfl) S.B.range_ (pa_cons (pe_callB call_len_seq (by rfl) S.B.len_ PySem.boot_len (pa_cons (pv 1) pa_nil)) pa_nil)) (pg_name (i := 3) sc__law_same.nd rfl (Or.inl rfl)) (pss_one (ps_if (PW.pt (pw_or (pt_not (pt_val (pe_call o2 hr2 rfl i2 j2 b2 .nil pass0 (pa_cons (pe_ix ix_list (pv 2) (pv 3) (fun _ _ => rfl)) pa_nil)))) (pw_or1 (pt_cmpR (op_neD hr.units) (pe_ix ix_list (pv 2) (pv 3) (fun _ _ => rfl)) (pe_ix ix_list (pv 1) (pv 3) (fun _ _ => rfl)) (nomark _))))) (pss_one (ps_ret pe_bl)) pss_nil)))
      (pss_one (ps_ret pe_bl))))),
    (ss_seq (ss_if (st_or (st_not (st_val (se_isO S.kit_Table se_var))) (st_or (st_not (st_val (se_call rfl (sr_cons (se_fld (c := 0) S.k_Table S.n_Table_size se_var) sr_nil)))) (st_test (se_op oi_neD (se_fld (c := 0) S.k_Table S.n_Table_size se_var) (se_b1 bi_len se_var))))) (ss_ret (np := 2) (se_const rfl)) ss_nil)
      (ss_seq (ss_asg (i := 2) (by decide) (SE.fr (se_meth (c := 0) rfl (SE.fr se_var) sr_nil)))
      (ss_seq (ss_if (st_or (st_not (st_val (se_isI se_var))) (st_test (se_op oi_ne (se_b1 bi_len se_var) (se_b1 bi_len se_var)))) (ss_ret (np := 2) (se_const rfl)) ss_nil)
      (ss_seq (ss_for (si_range1 (se_b1 bi_len se_var)) (sg_name (i := 3) (by decide)) (ss_if (st_or (st_not (st_val (se_call rfl (sr_cons (se_op oi_ixL se_var se_var) sr_nil)))) (st_test (se_op oi_neD (se_op oi_ixL se_var se_var) (se_op oi_ixL se_var se_var)))) (ss_ret (np := 2) (se_const rfl)) ss_nil))
      (ss_ret (np := 2) (se_const rfl))))))⟩
theorem ok_Table_identity (S : Al P K mg cl) : ∃ p f fd, FnOk P w K mg base CX0 5 f fd ["cls", "size"] (spD cl D_Table_identity) ∧ ClX.CMet K (cl 0) (.type "type") "identity" p f ∧ Binds K fd ["cls", "size"] [] := by
  obtain ⟨p, f, fd, F, i, b⟩ := S.f_Table_identity
  obtain ⟨f0, fd0, o0, i0, j0, b0⟩ := ok_check_size (P := P) (w := w) (base := base) S
  obtain ⟨f1, fd1, o1, i1, b1⟩ := ok_Table___init__ (P := P) (w := w) (base := base) S
  refine ⟨p, f, fd, ?_, i, b⟩
  refine Fun.okD F sc_Table_identity [] [0, 1] 1 Db_Table_identity rfl (by decide) fun cdv A outer s H E hr => ?_
  have hr2 : Room 2 _ := hr.mono (by decide)
  have hr4 : Room 4 _ := hr.mono (by decide)
  exact ⟨_, pss_cons (ps_expr (pe_call o0 hr2 rfl i0 j0 b0 .nil pass0 (pa_cons (pv 1) pa_nil)))
      (pss_one (ps_ret (pe_makeV (i := 0) i1 o1 hr4 rfl (.inl rfl) b1 pass0 (pa_cons (pe_lc (own := [("word", 2)]) rfl sc_Table_identity.nd (pi_range1 (by rfl) S.B.range_ (pa_cons (pv 1) pa_nil)) (blkOk_by (own := [("word", 2)]) (N := N_Table_identity) (sc := defScope s_Table_identity) (by decide +kernel)) (fun _ _ _ _ _ => (pg_name (i := 2) sc_Table_identity.nd rfl (Or.inl rfl))) (fun _ _ _ _ _ => pts_nil) (fun _ _ _ _ _ => (pe_lst (pa_cons (pv 2) pa_nil)))) pa_nil)))),
    (ss_seq (ss_expr (se_call rfl (sr_cons se_var sr_nil)))
      (ss_ret (np := 2) (SE.tmp (se_makeN (sr_cons (se_lc (vs := [2]) (by decide) (si_range1 se_var) (sg_name (i := 2) (by decide)) (by decide) st_yes (SE.sf (se_lst (sa_cons (SE.sf se_var) sa_nil)))) sr_nil)))))⟩
theorem okg_check_same_size (S : Al P K mg cl) {f : Addr} {fd : FuncData} (F : Fun K "check_same_size" "check_same_size" s_check_same_size f fd) : FnOk P w K mg base CX0 1 f fd ["first", "second"] (spD cl D_check_same_size) := by
  refine Fun.okD F sc_check_same_size [] [0, 1] 0 Db_check_same_size rfl (by decide) fun cdv A outer s H E hr => ?_
  exact ⟨_, pss_one (ps_if (pt_cmpR (op_neD hr.units) (PE.alt (pe_fld (pv 0) rfl) (PE.alt (pe_fld (pv 0) rfl) (pe_fld (pv 0) rfl))) (PE.alt (pe_fld (pv 1) rfl) (PE.alt (pe_fld (pv 1) rfl) (PE.alt (pe_fld (pv 1) rfl) (PE.alt (pe_fld (pv 1) rfl) (pe_fld (pv 1) rfl))))) (nomark _)) (pss_one ps_never) pss_nil),
    (ss_if (st_test (se_op oi_neD (se_alt (se_fld (c := 0) S.k_Table S.n_Table_size se_var) (se_alt (se_fld (c := 1) S.k_Cast S.n_Cast_size se_var) (se_fld (c := 6) S.k_Clues S.n_Clues_size se_var))) (se_alt (se_fld (c := 0) S.k_Table S.n_Table_size se_var) (se_alt (se_fld (c := 2) S.k_Person S.n_Person_size se_var) (se_alt (se_fld (c := 3) S.k_Knower S.n_Knower_size se_var) (se_alt (se_fld (c := 4) S.k_Doubter S.n_Doubter_size se_var) (se_fld (c := 5) S.k_KnowingDoubter S.n_KnowingDoubter_size se_var))))))) ss_never ss_nil)⟩
theorem ok_check_same_size (S : Al P K mg cl) : ∃ f fd, FnOk P w K mg base CX0 1 f fd ["first", "second"] (spD cl D_check_same_size) ∧ mg "check_same_size" = some (.ref f) ∧ PySem.W.keepIn K (.ref f) = true ∧ Binds K fd ["first", "second"] [] := by
  obtain ⟨f, fd, F, i, b⟩ := S.f_check_same_size
  exact ⟨f, fd, okg_check_same_size S F, i, F.kp, b⟩
theorem ok_Table__out_of_some (S : Al P K mg cl) : ∃ f fd, FnOk P w K mg base CX0 2 f fd ["self", "words"] (spD cl D_Table__out_of_some) ∧ Meth K (cl 0) "_out_of_some" f ∧ Binds K fd ["self", "words"] [] := by
  obtain ⟨f, fd, F, i, b⟩ := S.f_Table__out_of_some
  obtain ⟨f0, fd0, o0, i0, j0, b0⟩ := ok_ascending (P := P) (w := w) (base := base) S
  refine ⟨f, fd, ?_, i, b⟩
  refine Fun.okD F sc_Table__out_of_some [] [0, 1] 2 Db_Table__out_of_some rfl (by decide) fun cdv A outer s H E hr => ?_
  have hr1 : Room 1 _ := hr.mono (by decide)
  exact ⟨_, pss_one (ps_ret (pe_call o0 hr1 rfl i0 j0 b0 .nil pass0 (pa_cons (pe_lc2 (own := [("word", 2), ("out", 3)]) (vs1 := [3]) rfl sc_Table__out_of_some.nd (PI.alt (pi_list (pv 1)) (pi_tup (pv 1))) (blkOk_by (own := [("word", 2), ("out", 3)]) (N := N_Table__out_of_some) (sc := defScope s_Table__out_of_some) (by decide +kernel)) (by decide) (fun _ _ _ _ _ => (pg_name (i := 2) sc_Table__out_of_some.nd rfl (Or.inl rfl))) (fun _ _ _ _ _ => pts_nil) (fun _ _ _ _ _ => (pi_tup (pe_ix ix_tup (pe_fld (pv 0) rfl) (pv 2) (fun _ _ => rfl)))) (fun _ _ _ _ _ => (pg_name (i := 3) sc_Table__out_of_some.nd rfl (Or.inl rfl))) (fun _ _ _ _ _ => pts_nil) (fun _ _ _ _ _ => (pv 3))) (pa_cons (pe_fld (pv 0) rfl) pa_nil)))),
    (ss_ret (np := 2) (se_call rfl (sr_cons (se_lc2 (vs := [2, 3]) (vs1 := [3]) (by decide) (by decide) (si_alt (si_list (SE.sf (SE.imp se_var))) (si_tup (SE.sf (SE.imp se_var)))) (sg_name (i := 2) (by decide)) (by decide) st_yes (si_tup (SE.sf (se_op oi_ixT (se_fld (c := 0) S.k_Table S.n_Table__rows se_var) se_var))) (sg_name (i := 3) (by decide)) (by decide) st_yes (SE.sf (SE.imp se_var))) (sr_cons (se_fld (c := 0) S.k_Table S.n_Table_size se_var) sr_nil))))⟩
theorem okg_Table___mul__ (S : Al P K mg cl) {f : Addr} {fd : FuncData} (F : Fun K "__mul__" "Table.__mul__" s_Table___mul__ f fd) : FnOk P w K mg base CX0 5 f fd ["self", "other"] (spD cl D_Table___mul__) := by
  obtain ⟨f0, fd0, o0, i0, j0, b0⟩ := ok_check_same_size (P := P) (w := w) (base := base) S
  obtain ⟨f1, fd1, o1, i1, b1⟩ := ok_Table___init__ (P := P) (w := w) (base := base) S
  obtain ⟨f2, fd2, o2, i2, b2⟩ := ok_Table__out_of_some (P := P) (w := w) (base := base) S
  refine Fun.okD F sc_Table___mul__ [] [0, 1] 1 Db_Table___mul__ rfl (by decide) fun cdv A outer s H E hr => ?_
  have hr1 : Room 1 _ := hr.mono (by decide)
  have hr2 : Room 2 _ := hr.mono (by decide)
  have hr4 : Room 4 _ := hr.mono (by decide)
  exact ⟨_, pss_cons (ps_expr (pe_call o0 hr1 rfl i0 j0 b0 .nil pass0 (pa_cons (pv 0) (pa_cons (pv 1) pa_nil))))
      (pss_one (ps_ret (pe_make i1 o1 hr4 rfl S.g_Table b1 .nil pass0 (pa_cons (pe_lc (own := [("row", 2)]) rfl sc_Table___mul__.nd (pi_tup (pe_fld (pv 0) rfl)) (blkOk_by (own := [("row", 2)]) (N := N_Table___mul__) (sc := defScope s_Table___mul__) (by decide +kernel)) (fun _ _ _ _ _ => (pg_name (i := 2) sc_Table___mul__.nd rfl (Or.inl rfl))) (fun _ _ _ _ _ => pts_nil) (fun _ _ _ _ _ => (pe_meth (pv 1) S.k_Table i2 o2 hr2 b2 .nil pass0 (pa_cons (pv 2) pa_nil)))) pa_nil)))),
    (ss_seq (ss_expr (se_call rfl (sr_cons (SE.fr se_var) (sr_cons (SE.fr se_var) sr_nil))))
      (ss_ret (np := 2) (SE.tmp (se_makeR (c := 0) rfl (sr_cons (se_lc (vs := [2]) (by decide) (si_tup (SE.sf (se_fld (c := 0) S.k_Table S.n_Table__rows se_var))) (sg_name (i := 2) (by decide)) (by decide) st_yes (SE.sf (se_meth (c := 0) rfl (SE.fr se_var) (sr_cons (SE.fr se_var) sr_nil)))) sr_nil)))))⟩
theorem ok_Table___mul__ (S : Al P K mg cl) : ∃ f fd, FnOk P w K mg base CX0 5 f fd ["self", "other"] (spD cl D_Table___mul__) ∧ PySem.W.findIn K (.ref (cl 0)) "__mul__" = some (some (.ref f)) ∧ PySem.W.isFn K (.ref f) = true ∧ Binds K fd ["self", "other"] [] := by
  obtain ⟨f, fd, F, i, j, b⟩ := S.f_Table___mul__
  exact ⟨f, fd, okg_Table___mul__ S F, i, j, b⟩
theorem okg_Table_repeated (S : Al P K mg cl) {f : Addr} {fd : FuncData} (F : Fun K "repeated" "Table.repeated" s_Table_repeated f fd) : FnOk P w K mg base CX0 6 f fd ["self", "count"] (spD cl D_Table_repeated) := by
  obtain ⟨p0, f0, fd0, o0, i0, b0⟩ := ok_Table_identity (P := P) (w := w) (base := base) S
  obtain ⟨f1, fd1, o1, i1, j1, b1⟩ := ok_Table___mul__ (P := P) (w := w) (base := base) S
  refine Fun.okD F sc_Table_repeated [1] [0] 2 Db_Table_repeated rfl (by decide) fun cdv A outer s H E hr => ?_
  have hr5 : Room 5 _ := hr.mono (by decide)
  exact ⟨_, pss_cons (ps_if (pt_cmpR op_lt (pv 1) pe_int (nomark _)) (pss_one ps_never) pss_nil)
      (pss_cons (ps_set (i := 2) sc_Table_repeated.nd rfl (Or.inl rfl) (ClX.pe_cmeth (pe_glob rfl S.g_Table (v := .ref _) rfl) S.r_Table i0 (o0.rawN b0) hr5 pass0 (pa_cons (pe_fld (pv 0) rfl) pa_nil)))
      (pss_cons (ps_set (i := 3) sc_Table_repeated.nd rfl (Or.inl rfl) (pv 0))
      (pss_cons (ps_while PassesOwn.never (pt_cmpR op_gt (pv 1) pe_int (nomark _)) (pss_cons (ps_if (pt_truth (pe_op op_and (pv 1) pe_int) (by intro _; rfl)) (pss_one (ps_set (i := 2) sc_Table_repeated.nd rfl (Or.inl rfl) (pe_op (op_bin o1 hr5 b1 pass0 S.sf_Table i1 j1) (pv 2) (pv 3)))) pss_nil)
      (pss_cons (ps_set (i := 3) sc_Table_repeated.nd rfl (Or.inl rfl) (pe_op (op_bin o1 hr5 b1 pass0 S.sf_Table i1 j1) (pv 3) (pv 3)))
      (pss_one (ps_set (i := 1) sc_Table_repeated.nd rfl (Or.inl rfl) (pe_op op_shr (pv 1) pe_int))))))
      (pss_one (ps_ret (pv 2)))))),
    (ss_seq (ss_if (st_test (se_op oi_lt se_var (se_const rfl))) ss_never ss_nil)
      (ss_seq (ss_asg (i := 2) (by decide) (SE.fr (se_cmeth (c := 0) (sr_cons (se_fld (c := 0) S.k_Table S.n_Table_size se_var) sr_nil))))
      (ss_seq (ss_asg (i := 3) (by decide) se_var)
      (ss_seq (ss_while (st_test (se_op oi_gt se_var (se_const rfl))) (ss_seq (ss_if (st_tru (se_op oi_and se_var (se_const rfl))) (ss_asg (i := 2) (by decide) (SE.fr (se_bin (c := 0) se_var se_var))) ss_nil)
      (ss_seq (ss_asg (i := 3) (by decide) (SE.fr (se_bin (c := 0) se_var se_var)))
      (ss_asg (i := 1) (by decide) (se_op oi_shr se_var (se_const rfl))))))
      (ss_ret (np := 2) se_var)))))⟩
theorem ok_Table_repeated (S : Al P K mg cl) : ∃ f fd, FnOk P w K mg base CX0 6 f fd ["self", "count"] (spD cl D_Table_repeated) ∧ Meth K (cl 0) "repeated" f ∧ Binds K fd ["self", "count"] [] := by
  obtain ⟨f, fd, F, i, b⟩ := S.f_Table_repeated
  exact ⟨f, fd, okg_Table_repeated S F, i, b⟩
theorem ok__law_same_rows (S : Al P K mg cl) : ∃ f fd, FnOk P w K mg base CX0 1 f fd ["_law_n"] (spD cl D__law_same_rows) ∧ mg "_law_same_rows" = some (.ref f) ∧ PySem.W.keepIn K (.ref f) = true ∧ Binds K fd ["_law_n"] [] := by
  obtain ⟨f, fd, F, i, b⟩ := S.f__law_same_rows
  refine ⟨f, fd, ?_, i, F.kp, b⟩
  refine Fun.okD F sc__law_same_rows [] [0] 1 Db__law_same_rows rfl (by decide) fun cdv A outer s H E hr => ?_
  exact ⟨_, pss_one (ps_ret (pe_lc (own := [("_law_word", 1)]) rfl sc__law_same_rows.nd (pi_range1 (by rfl) S.B.range_ (pa_cons (pv 0) pa_nil)) (blkOk_by (own := [("_law_word", 1)]) (N := N__law_same_rows) (sc := defScope s__law_same_rows) (by decide +kernel)) (fun _ _ _ _ _ => (pg_name (i := 1) sc__law_same_rows.nd rfl (Or.inl rfl))) (fun _ _ _ _ _ => pts_nil) (fun _ _ _ _ _ => (pe_lst (pa_cons (pv 1) pa_nil))))),
    (ss_ret (np := 1) (se_lc (vs := [1]) (by decide) (si_range1 se_var) (sg_name (i := 1) (by decide)) (by decide) st_yes (SE.sf (se_lst (sa_cons (SE.sf se_var) sa_nil)))))⟩
theorem ok__law_join (S : Al P K mg cl) : ∃ f fd, FnOk P w K mg base CX0 1 f fd ["_law_first", "_law_last"] (spD cl D__law_join) ∧ mg "_law_join" = some (.ref f) ∧ PySem.W.keepIn K (.ref f) = true ∧ Binds K fd ["_law_first", "_law_last"] [] := by
  obtain ⟨f, fd, F, i, b⟩ := S.f__law_join
  refine ⟨f, fd, ?_, i, F.kp, b⟩
  refine Fun.okD F sc__law_join [] [0, 1] 6 Db__law_join rfl (by decide) fun cdv A outer s H E hr => ?_
  exact ⟨_, pss_cons (ps_set (i := 2) sc__law_join.nd rfl (Or.inl rfl) (pe_lst pa_nil))
      (pss_cons (ps_for PassesOwn.never rfl (pi_list (pv 0)) (pg_name (i := 3) sc__law_join.nd rfl (Or.inl rfl)) (pss_cons (ps_set (i := 4) sc__law_join.nd rfl (Or.inr rfl) (pe_lst pa_nil))
      (pss_cons (ps_for PassesOwn.never rfl (pi_list (pv 3)) (pg_name (i := 5) sc__law_join.nd rfl (Or.inl rfl)) (pss_one (ps_set (i := 4) sc__law_join.nd rfl (Or.inr rfl) (pe_op op_cat (pv 4) (pe_lc (own := [("_law_out", 6)]) rfl sc__law_join.nd (pi_list (pe_ix ix_list (pv 1) (pv 5) (fun _ _ => rfl))) (blkOk_by (own := [("_law_out", 6)]) (N := N__law_join) (sc := defScope s__law_join) (by decide +kernel)) (fun _ _ _ _ _ => (pg_name (i := 6) sc__law_join.nd rfl (Or.inl rfl))) (fun _ _ _ _ _ => (pts_one (pt_cmpR op_notIn_seq (pv 6) (pv 4) (by rfl)))) (fun _ _ _ _ _ => (pv 6)))))))
      (pss_one (ps_expr (pe_bm PySem.F.plainAttrs_list PySem.F.slot_list_append PySem.F.type_list_append mt_append (pv 2) (pa_cons (pe_lc (own := [("_law_word", 7)]) rfl sc__law_join.nd (pi_range1 (by rfl) S.B.range_ (pa_cons (pe_callB call_len_seq (by rfl) S.B.len_ PySem.boot_len (pa_cons (pv 1) pa_nil)) pa_nil)) (blkOk_by (own := [("_law_word", 7)]) (N := N__law_join) (sc := defScope s__law_join) (by decide +kernel)) (fun _ _ _ _ _ => (pg_name (i := 7) sc__law_join.nd rfl (Or.inl rfl))) (fun _ _ _ _ _ => (pts_one (pt_cmpR op_in_seq (pv 7) (pv 4) (by rfl)))) (fun _ _ _ _ _ => (pv 7))) pa_nil)))))))
      (pss_one (ps_ret (pv 2)))),
    (ss_seq (ss_asg (i := 2) (by decide) (se_lst sa_nil))
      (ss_seq (ss_for (si_list (SE.sf (SE.imp se_var))) (sg_name (i := 3) (by decide)) (ss_seq (ss_asg (i := 4) (by decide) (SE.fr (se_lst sa_nil)))
      (ss_seq (ss_for (si_list (SE.sf (SE.imp se_var))) (sg_name (i := 5) (by decide)) (ss_asg (i := 4) (by decide) (SE.fr (se_opN on_cat se_var (se_lc (vs := [6]) (by decide) (si_list (SE.sf (se_op oi_ixL se_var se_var))) (sg_name (i := 6) (by decide)) (by decide) (st_test (se_op (oi_inS (neg := true)) se_var se_var)) (SE.sf (SE.imp se_var)))))))
      (ss_expr (se_plc mp_append se_var (sa_cons (SE.sf (se_lc (vs := [7]) (by decide) (si_range1 (se_b1 bi_len se_var)) (sg_name (i := 7) (by decide)) (by decide) (st_test (se_op (oi_inS (neg := false)) se_var se_var)) (SE.sf (SE.imp se_var)))) sa_nil))))))
      (ss_ret (np := 2) se_var)))⟩
theorem ok__law_power (S : Al P K mg cl) : ∃ f fd, FnG P w K mg base 2 f fd ["_law_rows_here", "_law_count"] (spD cl D__law_power) ∧ mg "_law_power" = some (.ref f) ∧ PySem.W.keepIn K (.ref f) = true ∧ Binds K fd ["_law_rows_here", "_law_count"] [] := by
  obtain ⟨f, fd, F, i, b⟩ := S.f__law_power
  obtain ⟨f0, fd0, o0, i0, j0, b0⟩ := ok__law_same_rows (P := P) (w := w) (base := base) S
  obtain ⟨f1, fd1, o1, i1, j1, b1⟩ := ok__law_join (P := P) (w := w) (base := base) S
  refine ⟨f, fd, ?_, i, F.kp, b⟩
  refine Fun.okDG F sc__law_power [1] [0] 5 Db__law_power rfl (by decide) fun cdv A outer s H E hgd hr => ?_
  have hr1 : Room 1 _ := hr.mono (by decide)
  exact ⟨_, pss_cons (ps_set (i := 2) sc__law_power.nd rfl (Or.inl rfl) (pe_lst (pa_cons (pe_call o0 hr1 rfl i0 j0 b0 .nil pass0 (pa_cons (pe_callB call_len_seq (by rfl) S.B.len_ PySem.boot_len (pa_cons (pv 0) pa_nil)) pa_nil)) pa_nil)))
      (pss_cons (ps_set (i := 3) sc__law_power.nd rfl (Or.inl rfl) (pe_disp (pps_cons (pe_callTy (call_strD hgd hr.units) (by rfl) S.B.str_ (by decide +kernel) (pa_cons (pe_ix ix_list (pv 2) pe_int (fun _ _ => rfl)) pa_nil)) pe_int pps_nil) rfl rfl (fun z => nomatch z) (by decide)))
      (pss_cons (ps_for PassesOwn.never rfl (pi_range1 (by rfl) S.B.range_ (pa_cons pe_int pa_nil)) (pg_name (i := 4) sc__law_power.nd rfl (Or.inl rfl)) (pss_cons (ps_set (i := 5) sc__law_power.nd rfl (Or.inl rfl) (pe_call o1 hr1 rfl i1 j1 b1 .nil pass0 (pa_cons (pe_ix ix_list (pv 2) (pv 4) (fun _ _ => rfl)) (pa_cons (pv 0) pa_nil))))
      (pss_cons (ps_if (pt_cmp (pc_din (units1 hr) (pe_callTy (call_strD hgd hr.units) (by rfl) S.B.str_ (by decide +kernel) (pa_cons (pv 5) pa_nil)) (pv 3)) rfl) (pss_cons (ps_set (i := 6) sc__law_power.nd rfl (Or.inl rfl) (pe_dget (units1 hr) (pv 3) (pe_callTy (call_strD hgd hr.units) (by rfl) S.B.str_ (by decide +kernel) (pa_cons (pv 5) pa_nil)) (fun _ _ => rfl)))
      (pss_cons (ps_if (pt_cmpR op_ge (pv 1) (pv 6) (nomark _)) (pss_one (ps_set (i := 1) sc__law_power.nd rfl (Or.inl rfl) (pe_op op_add (pv 6) (pe_op op_mod (pe_callTy call_int1 (by rfl) S.B.int_ (by decide +kernel) (pa_cons (pe_op op_sub (pv 1) (pv 6)) pa_nil)) (pe_op op_sub (pe_callB call_len_seq (by rfl) S.B.len_ PySem.boot_len (pa_cons (pv 2) pa_nil)) (pv 6)))))) pss_nil)
      (pss_one (ps_ret (pe_ix ix_list (pv 2) (pv 1) (fun _ _ => rfl)))))) pss_nil)
      (pss_cons (ps_dput (units1 hr) (pv 3) (pe_callTy (call_strD hgd hr.units) (by rfl) S.B.str_ (by decide +kernel) (pa_cons (pv 5) pa_nil)) (pe_callB call_len_seq (by rfl) S.B.len_ PySem.boot_len (pa_cons (pv 2) pa_nil)) rfl)
      (pss_one (ps_expr (pe_bm PySem.F.plainAttrs_list PySem.F.slot_list_append PySem.F.type_list_append mt_append (pv 2) (pa_cons (pv 5) pa_nil))))))))
      (pss_one (ps_ret (pe_lst pa_nil))))),
    (ss_seq (ss_asg (i := 2) (by decide) (se_lst (sa_cons (SE.sf (se_call rfl (sr_cons (se_b1 bi_len se_var) sr_nil))) sa_nil)))
      (ss_seq (ss_asg (i := 3) (by decide) (se_disp (sps_cons (SE.sf (se_b1 bi_strD (se_op oi_ixL se_var (se_const rfl)))) (SE.sf (se_const rfl)) sps_nil)))
      (ss_seq (ss_for (si_range1 (se_const rfl)) (sg_name (i := 4) (by decide)) (ss_seq (ss_asg (i := 5) (by decide) (SE.fr (se_call rfl (sr_cons (se_op oi_ixL se_var se_var) (sr_cons (SE.fr se_var) sr_nil)))))
      (ss_seq (ss_if (st_test (se_din (se_b1 bi_strD se_var) se_var)) (ss_seq (ss_asg (i := 6) (by decide) (se_dget se_var (se_b1 bi_strD se_var)))
      (ss_seq (ss_if (st_test (se_op oi_ge se_var se_var)) (ss_asg (i := 1) (by decide) (se_op oi_add se_var (se_op oi_mod (se_b1 bi_int (se_op oi_sub se_var se_var)) (se_op oi_sub (se_b1 bi_len se_var) se_var)))) ss_nil)
      (ss_ret (np := 2) (se_op oi_ixL se_var se_var)))) ss_nil)
      (ss_seq (ss_dput (SE.sf (se_b1 bi_len se_var)) se_var (se_b1 bi_strD se_var))
      (ss_expr (se_plc mp_append se_var (sa_cons (SE.sf (SE.imp se_var)) sa_nil)))))))
      (ss_ret (np := 2) (se_lst sa_nil)))))⟩
theorem bk_check_same_size (S : Al P K mg cl) : ∃ f fd, FnOk P w K mg base (L2N.CX P w) 3 f fd ["first", "second"] (spX cl D_check_same_size X_check_same_size) ∧ mg "check_same_size" = some (.ref f) ∧ PySem.W.keepIn K (.ref f) = true ∧ Binds K fd ["first", "second"] [] := by
  obtain ⟨f, fd, F, i, b⟩ := S.f_check_same_size
  refine ⟨f, fd, ?_, i, F.kp, b⟩
  refine Fun.okB F sc_check_same_size [] [0, 1] 0 Xb_check_same_size (okg_check_same_size S F) (by decide) rfl (by decide) fun cdv A outer s H E hr => ?_
  have hr2 : Room 2 _ := hr.mono (by decide)
  exact ⟨_, pss_one (ps_if (pt_cmpR (op_neD hr.units) (PE.alt (pe_fld (pv 0) rfl) (PE.alt (pe_fld (pv 0) rfl) (pe_fld (pv 0) rfl))) (PE.alt (pe_fld (pv 1) rfl) (PE.alt (pe_fld (pv 1) rfl) (PE.alt (pe_fld (pv 1) rfl) (PE.alt (pe_fld (pv 1) rfl) (pe_fld (pv 1) rfl))))) (nomark _)) (pss_one (Eb.ps_raiseEr rfl S.e_SizeMismatch.er hr2 (L2N.takes_of rfl rfl rfl rfl) (pa_cons (PE.alt (pe_fld (pv 0) rfl) (PE.alt (pe_fld (pv 0) rfl) (pe_fld (pv 0) rfl))) (pa_cons (PE.alt (pe_fld (pv 1) rfl) (PE.alt (pe_fld (pv 1) rfl) (PE.alt (pe_fld (pv 1) rfl) (PE.alt (pe_fld (pv 1) rfl) (pe_fld (pv 1) rfl))))) pa_nil)))) pss_nil),
    (ss_if (st_test (se_op oi_neD (se_alt (se_fld (c := 0) S.k_Table S.n_Table_size se_var) (se_alt (se_fld (c := 1) S.k_Cast S.n_Cast_size se_var) (se_fld (c := 6) S.k_Clues S.n_Clues_size se_var))) (se_alt (se_fld (c := 0) S.k_Table S.n_Table_size se_var) (se_alt (se_fld (c := 2) S.k_Person S.n_Person_size se_var) (se_alt (se_fld (c := 3) S.k_Knower S.n_Knower_size se_var) (se_alt (se_fld (c := 4) S.k_Doubter S.n_Doubter_size se_var) (se_fld (c := 5) S.k_KnowingDoubter S.n_KnowingDoubter_size se_var))))))) (ss_raise (c := 3) rfl (sr_cons (se_alt (se_fld (c := 0) S.k_Table S.n_Table_size se_var) (se_alt (se_fld (c := 1) S.k_Cast S.n_Cast_size se_var) (se_fld (c := 6) S.k_Clues S.n_Clues_size se_var))) (sr_cons (se_alt (se_fld (c := 0) S.k_Table S.n_Table_size se_var) (se_alt (se_fld (c := 2) S.k_Person S.n_Person_size se_var) (se_alt (se_fld (c := 3) S.k_Knower S.n_Knower_size se_var) (se_alt (se_fld (c := 4) S.k_Doubter S.n_Doubter_size se_var) (se_fld (c := 5) S.k_KnowingDoubter S.n_KnowingDoubter_size se_var))))) sr_nil))) ss_nil)⟩
theorem bk_check_size (S : Al P K mg cl) : ∃ f fd, FnOk P w K mg base (L2N.CX P w) 3 f fd ["size"] (spX cl D_check_size X_check_size) ∧ mg "check_size" = some (.ref f) ∧ PySem.W.keepIn K (.ref f) = true ∧ Binds K fd ["size"] [] := by
  obtain ⟨f, fd, F, i, b⟩ := S.f_check_size
  obtain ⟨f0, fd0, o0, i0, j0, b0⟩ := ok_is_size (P := P) (w := w) (base := base) S
  refine ⟨f, fd, ?_, i, F.kp, b⟩
  refine Fun.okB F sc_check_size [] [0] 0 Xb_check_size (okg_check_size S F) (by decide) rfl (by decide) fun cdv A outer s H E hr => ?_
  have hr1 : Room 1 _ := hr.mono (by decide)
  have hr2 : Room 2 _ := hr.mono (by decide)
  exact ⟨_, pss_one (ps_if (pt_not (pt_val (pe_call o0 hr1 rfl i0 j0 b0 .nil pass0 (pa_cons (pv 0) pa_nil)))) (pss_one (Eb.ps_raiseEr rfl S.e_BadSize.er hr2 (L2N.takes_of rfl rfl rfl rfl) (pa_cons (pv 0) pa_nil))) pss_nil),
    (ss_if (st_not (st_val (se_call rfl (sr_cons se_var sr_nil)))) (ss_raise (c := 0) rfl (sr_cons se_var sr_nil)) ss_nil)⟩
theorem bk_Table___init__ (S : Al P K mg cl) : ∃ f fd, FnOk P w K mg base (L2N.CX P w) 4 f fd ["self", "rows"] (spX cl D_Table___init__ X_Table___init__) ∧ Mk K (cl 0) f ∧ Binds K fd ["self", "rows"] [] := by
  obtain ⟨f, fd, F, i, b⟩ := S.f_Table___init__
  obtain ⟨f0, fd0, o0, i0, j0, b0⟩ := bk_check_size (P := P) (w := w) (base := base) S
  obtain ⟨f1, fd1, o1, i1, j1, b1⟩ := ok_all_words (P := P) (w := w) (base := base) S
  obtain ⟨f2, fd2, o2, i2, j2, b2⟩ := ok_ascending (P := P) (w := w) (base := base) S
  refine ⟨f, fd, ?_, i, b⟩
  refine Fun.okB F sc_Table___init__ [] [0, 1] 5 Xb_Table___init__ (okg_Table___init__ S F) (by decide) rfl (by decide) fun cdv A outer s H E hr => ?_
  have hr1 : Room 1 _ := hr.mono (by decide)
  have hr2 : Room 2 _ := hr.mono (by decide)
  have hr3 : Room 3 _ := hr.mono (by decide)
  exact ⟨_, pss_cons (ps_set (i := 2) sc_Table___init__.nd rfl (Or.inr rfl) (pe_callB call_len_seq (by rfl) S.B.len_ PySem.boot_len (pa_cons (pv 1) pa_nil)))
      (pss_cons (ps_expr (pe_call o0 hr3 rfl i0 j0 b0 .nil (passUp (L2N.takes_of rfl rfl rfl rfl)) (pa_cons (pv 2) pa_nil)))
      (pss_cons (ps_for (L2.passes_of rfl) rfl (pi_enum (by rfl) S.B.enumerate_ (pa_cons (pv 1) pa_nil)) (pg_tup (by rfl) (pgs_cons (pg_name (i := 3) sc_Table___init__.nd rfl (Or.inl rfl)) (pgs_cons (pg_name (i := 4) sc_Table___init__.nd rfl (Or.inl rfl)) pgs_nil))) (pss_one (ps_if (pt_not (pt_val (pe_call o1 hr2 rfl i1 j1 b1 .nil pass0 (pa_cons (pv 4) (pa_cons (pv 2) pa_nil))))) (pss_one (Eb.ps_raiseEr rfl S.e_BadTable.er hr2 (L2N.takes_of rfl rfl rfl rfl) (pa_cons (pv 3) pa_nil))) pss_nil)))
      (pss_cons (ps_fld (pv 0) (pv 2) rfl)
      (pss_cons (ps_fld (pv 0) (pe_callTy call_tuple_of (by rfl) S.B.tuple_ (by decide +kernel) (pa_cons (pe_lc (own := [("row", 4)]) rfl sc_Table___init__.nd (pi_list (pv 1)) (blkOk_by (own := [("row", 4)]) (N := N_Table___init__) (sc := defScope s_Table___init__) (by decide +kernel)) (fun _ _ _ _ _ => (pg_name (i := 4) sc_Table___init__.nd rfl (Or.inl rfl))) (fun _ _ _ _ _ => pts_nil) (fun _ _ _ _ _ => (pe_callTy call_tuple_of (by rfl) S.B.tuple_ (by decide +kernel) (pa_cons (pe_call o2 hr1 rfl i2 j2 b2 .nil pass0 (pa_cons (pv 4) (pa_cons (pv 2) pa_nil))) pa_nil)))) pa_nil)) rfl)
      (pss_one (ps_fld (pv 0) (pe_callTy call_tuple_of (by rfl) S.B.tuple_ (by decide +kernel) (pa_cons (pe_lc2 (own := [("told", 5), ("row", 4), ("out", 6)]) (vs1 := [6]) rfl sc_Table___init__.nd (pi_enumT (by rfl) S.B.enumerate_ (pa_cons (pe_fld (pv 0) rfl) pa_nil)) (blkOk_by (own := [("told", 5), ("row", 4), ("out", 6)]) (N := N_Table___init__) (sc := defScope s_Table___init__) (by decide +kernel)) (by decide) (fun _ _ _ _ _ => (pg_tup (by rfl) (pgs_cons (pg_name (i := 5) sc_Table___init__.nd rfl (Or.inl rfl)) (pgs_cons (pg_name (i := 4) sc_Table___init__.nd rfl (Or.inl rfl)) pgs_nil)))) (fun _ _ _ _ _ => pts_nil) (fun _ _ _ _ _ => (pi_tup (pv 4))) (fun _ _ _ _ _ => (pg_name (i := 6) sc_Table___init__.nd rfl (Or.inl rfl))) (fun _ _ _ _ _ => pts_nil) (fun _ _ _ _ _ => (pe_tup (pa_cons (pv 5) (pa_cons (pv 6) pa_nil))))) pa_nil)) rfl)))))),
    (ss_seq (ss_asg (i := 2) (by decide) (se_b1 bi_len se_var))
      (ss_seq (ss_or (ss_expr (se_callX rfl (sr_cons se_var sr_nil))) (bs_expr (be_call rfl (sr_cons se_var sr_nil))))
      (ss_seq (ss_for (si_enum (SE.sf (SE.imp se_var))) (sg_tup (sgs_cons (sg_name (i := 3) (by decide)) (sgs_cons (sg_name (i := 4) (by decide)) sgs_nil))) (ss_if (st_not (st_val (se_call rfl (sr_cons (SE.fr se_var) (sr_cons se_var sr_nil))))) (ss_raise (c := 1) rfl (sr_cons se_var sr_nil)) ss_nil))
      (ss_seq (ss_fld (i := 0) (c := 0) S.k_Table S.n_Table_size se_var)
      (ss_seq (ss_fld (i := 0) (c := 0) S.k_Table S.n_Table__rows (se_b1U bu_tuple (se_lc (vs := [4]) (by decide) (si_list (SE.sf (SE.imp se_var))) (sg_name (i := 4) (by decide)) (by decide) st_yes (SE.sf (se_b1U bu_tuple (se_call rfl (sr_cons (SE.fr se_var) (sr_cons se_var sr_nil))))))))
      (ss_fld (i := 0) (c := 0) S.k_Table S.n_Table__pairs (se_b1U bu_tuple (se_lc2 (vs := [5, 4, 6]) (vs1 := [6]) (by decide) (by decide) (si_enumT (SE.sf (se_fld (c := 0) S.k_Table S.n_Table__rows se_var))) (sg_tup (sgs_cons (sg_name (i := 5) (by decide)) (sgs_cons (sg_name (i := 4) (by decide)) sgs_nil))) (by decide) st_yes (si_tup (SE.sf (SE.imp se_var))) (sg_name (i := 6) (by decide)) (by decide) st_yes (SE.sf (se_tup (sa_cons (SE.sf se_var) (sa_cons (SE.sf se_var) sa_nil))))))))))))⟩
theorem bk_Table___mul__ (S : Al P K mg cl) : ∃ f fd, FnOk P w K mg base (L2N.CX P w) 6 f fd ["self", "other"] (spX cl D_Table___mul__ X_Table___mul__) ∧ PySem.W.findIn K (.ref (cl 0)) "__mul__" = some (some (.ref f)) ∧ PySem.W.isFn K (.ref f) = true ∧ Binds K fd ["self", "other"] [] := by
  obtain ⟨f, fd, F, i, j, b⟩ := S.f_Table___mul__
  obtain ⟨f0, fd0, o0, i0, j0, b0⟩ := bk_check_same_size (P := P) (w := w) (base := base) S
  obtain ⟨f1, fd1, o1, i1, b1⟩ := bk_Table___init__ (P := P) (w := w) (base := base) S
  obtain ⟨f2, fd2, o2, i2, b2⟩ := ok_Table__out_of_some (P := P) (w := w) (base := base) S
  refine ⟨f, fd, ?_, i, j, b⟩
  refine Fun.okB F sc_Table___mul__ [] [0, 1] 1 Xb_Table___mul__ (okg_Table___mul__ S F) (by decide) rfl (by decide) fun cdv A outer s H E hr => ?_
  have hr2 : Room 2 _ := hr.mono (by decide)
  have hr3 : Room 3 _ := hr.mono (by decide)
  have hr5 : Room 5 _ := hr.mono (by decide)
  exact ⟨_, pss_cons (ps_expr (pe_call o0 hr3 rfl i0 j0 b0 .nil (passUp (L2N.takes_of rfl rfl rfl rfl)) (pa_cons (pv 0) (pa_cons (pv 1) pa_nil))))
      (pss_one (ps_ret (pe_make i1 o1 hr5 rfl S.g_Table b1 .nil (passUp (L2N.takes_of rfl rfl rfl rfl)) (pa_cons (pe_lc (own := [("row", 2)]) rfl sc_Table___mul__.nd (pi_tup (pe_fld (pv 0) rfl)) (blkOk_by (own := [("row", 2)]) (N := N_Table___mul__) (sc := defScope s_Table___mul__) (by decide +kernel)) (fun _ _ _ _ _ => (pg_name (i := 2) sc_Table___mul__.nd rfl (Or.inl rfl))) (fun _ _ _ _ _ => pts_nil) (fun _ _ _ _ _ => (pe_meth (pv 1) S.k_Table i2 o2 hr2 b2 .nil pass0 (pa_cons (pv 2) pa_nil)))) pa_nil)))),
    (ss_seq (ss_or (ss_expr (se_callX rfl (sr_cons (SE.fr se_var) (sr_cons (SE.fr se_var) sr_nil)))) (bs_expr (be_call rfl (sr_cons (SE.fr se_var) (sr_cons (SE.fr se_var) sr_nil)))))
      (ss_or (ss_ret (np := 2) (SE.tmp (se_makeRX (c := 0) rfl (sr_cons (se_lc (vs := [2]) (by decide) (si_tup (SE.sf (se_fld (c := 0) S.k_Table S.n_Table__rows se_var))) (sg_name (i := 2) (by decide)) (by decide) st_yes (SE.sf (se_meth (c := 0) rfl (SE.fr se_var) (sr_cons (SE.fr se_var) sr_nil)))) sr_nil)))) (bs_ret (be_makeR (c := 0) rfl (sr_cons (se_lc (vs := [2]) (by decide) (si_tup (SE.sf (se_fld (c := 0) S.k_Table S.n_Table__rows se_var))) (sg_name (i := 2) (by decide)) (by decide) st_yes (SE.sf (se_meth (c := 0) rfl (SE.fr se_var) (sr_cons (SE.fr se_var) sr_nil)))) sr_nil)))))⟩
theorem bk_Table_repeated (S : Al P K mg cl) : ∃ f fd, FnOk P w K mg base (L2N.CX P w) 7 f fd ["self", "count"] (spX cl D_Table_repeated X_Table_repeated) ∧ Meth K (cl 0) "repeated" f ∧ Binds K fd ["self", "count"] [] := by
  obtain ⟨f, fd, F, i, b⟩ := S.f_Table_repeated
  obtain ⟨p0, f0, fd0, o0, i0, b0⟩ := ok_Table_identity (P := P) (w := w) (base := base) S
  obtain ⟨f1, fd1, o1, i1, j1, b1⟩ := bk_Table___mul__ (P := P) (w := w) (base := base) S
  refine ⟨f, fd, ?_, i, b⟩
  refine Fun.okB F sc_Table_repeated [1] [0] 2 Xb_Table_repeated (okg_Table_repeated S F) (by decide) rfl (by decide) fun cdv A outer s H E hr => ?_
  have hr2 : Room 2 _ := hr.mono (by decide)
  have hr5 : Room 5 _ := hr.mono (by decide)
  have hr6 : Room 6 _ := hr.mono (by decide)
  exact ⟨_, pss_cons (ps_if (pt_cmpR op_lt (pv 1) pe_int (nomark _)) (pss_one (Eb.ps_raiseEr rfl S.e_BadCount.er hr2 (L2N.takes_of rfl rfl rfl rfl) (pa_cons (pv 1) pa_nil))) pss_nil)
      (pss_cons (ps_set (i := 2) sc_Table_repeated.nd rfl (Or.inl rfl) (ClX.pe_cmeth (pe_glob rfl S.g_Table (v := .ref _) rfl) S.r_Table i0 (o0.rawN b0) hr5 pass0 (pa_cons (pe_fld (pv 0) rfl) pa_nil)))
      (pss_cons (ps_set (i := 3) sc_Table_repeated.nd rfl (Or.inl rfl) (pv 0))
      (pss_cons (ps_while (L2.passes_of rfl) (pt_cmpR op_gt (pv 1) pe_int (nomark _)) (pss_cons (ps_if (pt_truth (pe_op op_and (pv 1) pe_int) (by intro _; rfl)) (pss_one (ps_set (i := 2) sc_Table_repeated.nd rfl (Or.inl rfl) (pe_op (op_bin o1 hr6 b1 (passUp (L2N.takes_of rfl rfl rfl rfl)) S.sf_Table i1 j1) (pv 2) (pv 3)))) pss_nil)
      (pss_cons (ps_set (i := 3) sc_Table_repeated.nd rfl (Or.inl rfl) (pe_op (op_bin o1 hr6 b1 (passUp (L2N.takes_of rfl rfl rfl rfl)) S.sf_Table i1 j1) (pv 3) (pv 3)))
      (pss_one (ps_set (i := 1) sc_Table_repeated.nd rfl (Or.inl rfl) (pe_op op_shr (pv 1) pe_int))))))
      (pss_one (ps_ret (pv 2)))))),
    (ss_seq (ss_if (st_test (se_op oi_lt se_var (se_const rfl))) (ss_raise (c := 4) rfl (sr_cons se_var sr_nil)) ss_nil)
      (ss_seq (ss_asg (i := 2) (by decide) (SE.fr (se_cmeth (c := 0) (sr_cons (se_fld (c := 0) S.k_Table S.n_Table_size se_var) sr_nil))))
      (ss_seq (ss_asg (i := 3) (by decide) se_var)
      (ss_seq (ss_while (st_test (se_op oi_gt se_var (se_const rfl))) (ss_seq (ss_if (st_tru (se_op oi_and se_var (se_const rfl))) (ss_or (ss_asg (i := 2) (by decide) (SE.fr (se_binX (c := 0) se_var se_var))) (bs_asg (be_bin (c := 0) se_var se_var))) ss_nil)
      (ss_seq (ss_or (ss_asg (i := 3) (by decide) (SE.fr (se_binX (c := 0) se_var se_var))) (bs_asg (be_bin (c := 0) se_var se_var)))
      (ss_asg (i := 1) (by decide) (se_op oi_shr se_var (se_const rfl))))))
      (ss_ret (np := 2) se_var)))))⟩
theorem ok__law_count_error (S : Al P K mg cl) : ∃ f fd, FnOk P w K mg base CX0 8 f fd ["_law_table", "_law_count"] (spD cl D__law_count_error) ∧ mg "_law_count_error" = some (.ref f) ∧ PySem.W.keepIn K (.ref f) = true ∧ Binds K fd ["_law_table", "_law_count"] [] := by
  obtain ⟨f, fd, F, i, b⟩ := S.f__law_count_error
  obtain ⟨f0, fd0, o0, i0, b0⟩ := bk_Table_repeated (P := P) (w := w) (base := base) S
  obtain ⟨fSI, fdSI, FSI, ISI, BSI⟩ := S.f__law_single
  refine ⟨f, fd, ?_, i, F.kp, b⟩
  refine Fun.okTry F sc__law_count_error [] [0, 1] 1 2 Dq__law_count_error Dz__law_count_error Tb__law_count_error rfl (by decide) (by decide) fun cdv A outer s H E hr => ?_
  have hr1 : Room 1 _ := hr.mono (by decide)
  have hr7 : Room 7 _ := hr.mono (by decide)
  exact ⟨_, _, _, _, pss_cons (L2N.ps_try_clauses (i := 2) rfl rfl sc__law_count_error.nd rfl rfl takesF (fun W pn xe tk po => (pss_one (ps_expr (pe_meth (pv 0) S.k_Table i0 o0 hr7 b0 .nil (passTry 3 tk) (pa_cons (pv 1) pa_nil)))))
      (.cons ⟨rfl, by decide, .inl S.errG.e4⟩ (fun a oe cls d pn hz hf => pss_one (ps_ret (pe_lst (pa_cons (pe_xf S.e_BadCount.xf (S.e_BadCount.no _ (by simp)) hz.zc hf (pv 2)) (pa_cons (Eb.pe_single 2 (ok_single FSI S.errG) hr1 hz hf ISI FSI.kp BSI) pa_nil))))) .nil))
    (pss_one (ps_ret (pe_lst pa_nil))),
    fun W => (ss_or (ss_expr (se_methX (c := 0) rfl (SE.fr se_var) (sr_cons se_var sr_nil))) (bs_expr (be_meth (c := 0) rfl (SE.fr se_var) (sr_cons se_var sr_nil)))), (ss_ret (np := 2) (se_lst sa_nil)),
    (hd_cons (c := 4) (f := fun xs => xs.getD 0 .non :: .bl true :: []) S.x_4_4 (fun c h _ => by cases h) (hs_ret (ha_cons (he_f (nm := "count") (k := 0) (fun vs h => match vs, h with | [_], _ => rfl) (by decide)) (ha_cons (he_s S.e_BadCount.kit) ha_nil)) (fun _ => by show 2 ≤ sizeLine; decide)) hd_nil)⟩
theorem ok_law_k07 (S : Al P K mg cl) (hl : ∀ cs : List Int, (∀ c ∈ cs, 0 ≤ c) → ∃ env', Dr_law_k07 (.un :: .fl (.lst [.lst (cs.map A.int), .int 0, .int 0, .int 0]) :: List.replicate 7 .un) = some (.rt (.fl (.fz (.bl true))), env')) : ∃ f fd, mg "law" = some (.ref f) ∧ (∀ (s : Shared) (v : Value), BindsTo s fd ⟨[v], []⟩ [("_law_script", v)]) ∧ ∀ base : Heap, FnG P w K mg base 9 f fd ["_law_script"] (Dl.spLaw K) := by
  obtain ⟨f, fd, F, i, b⟩ := S.f_law_k07
  refine ⟨f, fd, i, binds_raw F (R := fun fd => ∀ (s : Shared) (v : Value), BindsTo s fd ⟨[v], []⟩ [("_law_script", v)]) fun _ _ _ _ _ _ s v => .of_eq rfl, fun base => ?_⟩
  obtain ⟨f0, fd0, o0, i0, j0, b0⟩ := okb__law_box (P := P) (w := w) (base := base) S
  obtain ⟨f1, fd1, o1, i1, j1, b1⟩ := ok__law_take (P := P) (w := w) (base := base) S
  obtain ⟨f2, fd2, o2, i2, j2, b2⟩ := ok__law_rows (P := P) (w := w) (base := base) S
  obtain ⟨f3, fd3, o3, i3, b3⟩ := ok_Table___init__ (P := P) (w := w) (base := base) S
  obtain ⟨f4, fd4, o4, i4, j4, b4⟩ := ok__law_same (P := P) (w := w) (base := base) S
  obtain ⟨f5, fd5, o5, i5, b5⟩ := ok_Table_repeated (P := P) (w := w) (base := base) S
  obtain ⟨f6, fd6, o6, i6, j6, b6⟩ := ok__law_power (P := P) (w := w) (base := base) S
  obtain ⟨f7, fd7, o7, i7, j7, b7⟩ := ok__law_same_rows (P := P) (w := w) (base := base) S
  obtain ⟨f8, fd8, o8, i8, j8, b8⟩ := ok__law_count_error (P := P) (w := w) (base := base) S
  refine Fun.okLawG (cl := cl) F sc_law_k07 rfl 7 Dr_law_k07 rfl hl fun cdv A outer s H E hgd hr => ?_
  have hr1 : Room 1 _ := hr.mono (by decide)
  have hr2 : Room 2 _ := hr.mono (by decide)
  have hr3 : Room 3 _ := hr.mono (by decide)
  have hr4 : Room 4 _ := hr.mono (by decide)
  have hr6 : Room 6 _ := hr.mono (by decide)
  have hr8 : Room 8 _ := hr.mono (by decide)
  exact ⟨_, pss_cons (ps_set (i := 1) sc_law_k07.nd rfl (Or.inl rfl) (pe_call o0 hr1 rfl i0 j0 b0 .nil pass0 (pa_cons (pv 0) pa_nil)))
      (pss_cons (ps_set (i := 2) sc_law_k07.nd rfl (Or.inl rfl) (pe_op op_add pe_int (pe_call o1 hr1 rfl i1 j1 b1 .nil pass0 (pa_cons (pv 1) (pa_cons pe_int pa_nil)))))
      (pss_cons (ps_set (i := 3) sc_law_k07.nd rfl (Or.inl rfl) (pe_call o2 hr3 rfl i2 j2 b2 .nil pass0 (pa_cons (pv 1) (pa_cons (pv 2) (pa_cons pe_int pa_nil)))))
      (pss_cons (ps_set (i := 4) sc_law_k07.nd rfl (Or.inl rfl) (pe_make i3 o3 hr4 rfl S.g_Table b3 .nil pass0 (pa_cons (pe_lc (own := [("_law_row", 8)]) rfl sc_law_k07.nd (pi_list (pv 3)) (blkOk_by (own := [("_law_row", 8)]) (N := N_law_k07) (sc := defScope s_law_k07) (by decide +kernel)) (fun _ _ _ _ _ => (pg_name (i := 8) sc_law_k07.nd rfl (Or.inl rfl))) (fun _ _ _ _ _ => pts_nil) (fun _ _ _ _ _ => (pe_callTy call_list_of (by rfl) S.B.list_ (by decide +kernel) (pa_cons (pv 8) pa_nil)))) pa_nil)))
      (pss_cons (ps_set (i := 5) sc_law_k07.nd rfl (Or.inl rfl) (pe_call o1 hr1 rfl i1 j1 b1 .nil pass0 (pa_cons (pv 1) (pa_cons pe_int pa_nil))))
      (pss_cons (ps_set (i := 6) sc_law_k07.nd rfl (Or.inl rfl) (pe_call o1 hr1 rfl i1 j1 b1 .nil pass0 (pa_cons (pv 1) (pa_cons pe_int pa_nil))))
      (pss_cons (ps_if (pt_cmpR op_eq (pv 5) pe_int (nomark _)) (pss_one (ps_set (i := 6) sc_law_k07.nd rfl (Or.inl rfl) (pe_call o1 hr1 rfl i1 j1 b1 .nil pass0 (pa_cons (pv 1) (pa_cons (pe_op op_pow pe_int pe_int) pa_nil))))) pss_nil)
      (pss_cons (ps_if (pt_cmpR op_eq (pv 5) pe_int (nomark _)) (pss_one (ps_set (i := 6) sc_law_k07.nd rfl (Or.inl rfl) (pe_op op_add (pe_op op_pow pe_int pe_int) (pv 6)))) pss_nil)
      (pss_cons (ps_if (pt_not (pt_val (pe_call o4 hr3 rfl i4 j4 b4 .nil pass0 (pa_cons (pe_meth (pv 4) S.k_Table i5 o5 hr6 b5 .nil pass0 (pa_cons (pv 6) pa_nil)) (pa_cons (pe_callG o6 hgd hr2 rfl i6 j6 b6 (pa_cons (pv 3) (pa_cons (pv 6) pa_nil))) pa_nil))))) (pss_one (ps_ret pe_bl)) pss_nil)
      (pss_cons (ps_if (PW.pt (pw_or (pt_not (pt_val (pe_call o4 hr3 rfl i4 j4 b4 .nil pass0 (pa_cons (pe_meth (pv 4) S.k_Table i5 o5 hr6 b5 .nil pass0 (pa_cons pe_int pa_nil)) (pa_cons (pe_call o7 hr1 rfl i7 j7 b7 .nil pass0 (pa_cons (pv 2) pa_nil)) pa_nil))))) (pw_or1 (pt_not (pt_val (pe_call o4 hr3 rfl i4 j4 b4 .nil pass0 (pa_cons (pe_meth (pv 4) S.k_Table i5 o5 hr6 b5 .nil pass0 (pa_cons pe_int pa_nil)) (pa_cons (pv 3) pa_nil)))))))) (pss_one (ps_ret pe_bl)) pss_nil)
      (pss_cons (ps_set (i := 7) sc_law_k07.nd rfl (Or.inl rfl) (pe_op op_sub (pe_un un_neg pe_int) (pe_call o1 hr1 rfl i1 j1 b1 .nil pass0 (pa_cons (pv 1) (pa_cons (pe_op op_pow pe_int pe_int) pa_nil)))))
      (pss_one (ps_ret (pe_and (pe_cmpR (op_eqD hr.units) (pe_call o8 hr8 rfl i8 j8 b8 .nil pass0 (pa_cons (pv 4) (pa_cons (pv 7) pa_nil))) (pe_lst (pa_cons (pv 7) (pa_cons pe_bl pa_nil))) (nomark _)) (pe_one (pe_call o4 hr3 rfl i4 j4 b4 .nil pass0 (pa_cons (pv 4) (pa_cons (pv 3) pa_nil))))))))))))))))),
    (ss_seq (ss_asg (i := 2) (by decide) (se_op oi_add (se_const rfl) (se_call rfl (sr_cons se_var (sr_cons (se_const rfl) sr_nil)))))
      (ss_seq (ss_asg (i := 3) (by decide) (SE.fr (se_call rfl (sr_cons se_var (sr_cons se_var (sr_cons (se_const rfl) sr_nil))))))
      (ss_seq (ss_asg (i := 4) (by decide) (SE.fr (SE.tmp (se_makeR (c := 0) rfl (sr_cons (se_lc (vs := [8]) (by decide) (si_list (SE.sf (SE.imp se_var))) (sg_name (i := 8) (by decide)) (by decide) st_yes (SE.sf (se_b1N bn_list se_var))) sr_nil)))))
      (ss_seq (ss_asg (i := 5) (by decide) (se_call rfl (sr_cons se_var (sr_cons (se_const rfl) sr_nil))))
      (ss_seq (ss_asg (i := 6) (by decide) (se_call rfl (sr_cons se_var (sr_cons (se_const rfl) sr_nil))))
      (ss_seq (ss_if (st_test (se_op oi_eq se_var (se_const rfl))) (ss_asg (i := 6) (by decide) (se_call rfl (sr_cons se_var (sr_cons (se_op oi_pow (se_const rfl) (se_const rfl)) sr_nil)))) ss_nil)
      (ss_seq (ss_if (st_test (se_op oi_eq se_var (se_const rfl))) (ss_asg (i := 6) (by decide) (se_op oi_add (se_op oi_pow (se_const rfl) (se_const rfl)) se_var)) ss_nil)
      (ss_seq (ss_if (st_not (st_val (se_call rfl (sr_cons (se_meth (c := 0) rfl (SE.fr se_var) (sr_cons se_var sr_nil)) (sr_cons (se_call rfl (sr_cons (SE.fr se_var) (sr_cons se_var sr_nil))) sr_nil))))) (ss_ret (np := 1) (se_const rfl)) ss_nil)
      (ss_seq (ss_if (st_or (st_not (st_val (se_call rfl (sr_cons (se_meth (c := 0) rfl (SE.fr se_var) (sr_cons (se_const rfl) sr_nil)) (sr_cons (se_call rfl (sr_cons se_var sr_nil)) sr_nil))))) (st_not (st_val (se_call rfl (sr_cons (se_meth (c := 0) rfl (SE.fr se_var) (sr_cons (se_const rfl) sr_nil)) (sr_cons (SE.fr se_var) sr_nil)))))) (ss_ret (np := 1) (se_const rfl)) ss_nil)
      (ss_seq (ss_asg (i := 7) (by decide) (se_op oi_sub (se_un ui_neg (se_const rfl)) (se_call rfl (sr_cons se_var (sr_cons (se_op oi_pow (se_const rfl) (se_const rfl)) sr_nil)))))
      (ss_ret (np := 1) (se_and (se_op oi_eqD (se_call rfl (sr_cons (SE.fr se_var) (sr_cons se_var sr_nil))) (se_lst (sa_cons (SE.sf se_var) (sa_cons (SE.sf (se_const rfl)) sa_nil)))) (se_call rfl (sr_cons (SE.fr se_var) (sr_cons (SE.fr se_var) sr_nil)))))))))))))))⟩
end
end Dg
namespace Fn
open PySem PySem.Spec L2 Dl
abbrev nA (n : Nat) : A := .int (n : Int)
abbrev fz (a : A) : O := .fl (.fz a)
abbrev ow (xs : List A) : O := .fl (.lst xs)
/-! ## options, evaluated by steps that nothing unfolds -/
def _root_.Option.ob {α β : Type} (o : Option α) (f : α → Option β) : Option β := o.bind f
def _root_.Option.om {α β : Type} (o : Option α) (f : α → β) : Option β := o.map f
@[simp] theorem ob_some {α β : Type} {a : α} {f : α → Option β} : (some a).ob f = f a := (rfl)
@[simp] theorem ob_none {α β : Type} {f : α → Option β} : (none : Option α).ob f = none := (rfl)
@[simp] theorem om_some {α β : Type} {a : α} {f : α → β} : (some a).om f = some (f a) := (rfl)
@[simp] theorem om_none {α β : Type} {f : α → β} : (none : Option α).om f = none := (rfl)
/-! ## comprehensions and loops -/
theorem backE_at_out (e0 e : Dl.Env) : ∀ {vs : List Nat} {i : Nat}, i ∉ vs → (backE e0 e vs)[i]? = e[i]?
  | [], _, _ => rfl
  | v :: vs, i, h => by
    unfold backE
    split
    · rw [List.getElem?_set_ne (fun z => h (by rw [z]; exact List.mem_cons_self))]
      exact backE_at_out e0 e (fun z => h (List.mem_cons_of_mem _ z))
    · exact backE_at_out e0 e (fun z => h (List.mem_cons_of_mem _ z))
theorem wipeE_at_out (e : Dl.Env) : ∀ {vs : List Nat} {i : Nat}, i ∉ vs → (wipeE e vs)[i]? = e[i]?
  | [], _, _ => rfl
  | v :: vs, i, h => by
    unfold wipeE
    rw [List.getElem?_set_ne (fun z => h (by rw [z]; exact List.mem_cons_self))]
    exact wipeE_at_out e (fun z => h (List.mem_cons_of_mem _ z))
theorem backE_in (e0 e : Dl.Env) (l : e.length = e0.length) : ∀ {vs : List Nat} {i : Nat}, i ∈ vs → (backE e0 e vs)[i]? = e0[i]?
  | [], _, h => nomatch h
  | v :: vs, i, h => by
    by_cases e1 : v = i
    · subst e1
      unfold backE
      split
      · rename_i o ho
        rw [List.getElem?_set_self, ho]
        rw [backE_len, l]
        exact (List.getElem?_eq_some_iff.mp ho).1
      · rename_i ho
        rw [ho, List.getElem?_eq_none]
        rw [backE_len, l]
        exact List.getElem?_eq_none_iff.mp ho
    · have m : i ∈ vs := (List.mem_cons.mp h).resolve_left fun z => e1 z.symm
      unfold backE
      split
      · rw [List.getElem?_set_ne e1]; exact backE_in e0 e l m
      · exact backE_in e0 e l m
@[simp] theorem backE_wipe (e : Dl.Env) (vs : List Nat) : backE e (wipeE e vs) vs = e := by
  refine List.ext_getElem? fun i => ?_
  by_cases m : i ∈ vs
  · exact backE_in e _ (wipeE_len e vs) m
  · rw [backE_at_out _ _ m, wipeE_at_out _ m]
section
variable {ι : Type} {vs : List Nat} {h : A → Dl.Env → Option Dl.Env} {tt : Dl.Env → Option (Bool × Dl.Env)} {te : Dl.Env → Option (A × Dl.Env)} {env : Dl.Env}
/-- one item of a comprehension -/
def cstep (vs : List Nat) (h : A → Dl.Env → Option Dl.Env) (tt : Dl.Env → Option (Bool × Dl.Env)) (te : Dl.Env → Option (A × Dl.Env)) (x : A) (env : Dl.Env) : Option (Option A × Dl.Env) :=
  (h x env).ob fun e1 => (tt e1).ob fun p => if p.1 then (te p.2).om fun q => (some q.1, wipeE q.2 vs) else some (none, wipeE p.2 vs)
theorem compG_cons {x : A} {xs acc : List A} : compG vs h tt te (x :: xs) acc env = (cstep vs h tt te x env).bind fun p => match p.1 with
    | some v => if acc.length < sizeLine then compG vs h tt te xs (acc ++ [v]) p.2 else none
    | none => compG vs h tt te xs acc p.2 := by
  rw [compG]
  unfold cstep Option.ob Option.om
  cases h x env with
  | none => rfl
  | some e1 =>
    simp only [Option.bind_some]
    cases tt e1 with
    | none => rfl
    | some p =>
      simp only [Option.bind_some]
      split
      · cases te p.2 with
        | none => rfl
        | some q => rfl
      · rfl
theorem compG_map (f : ι → A) (b : ι → Bool) (v : ι → A) : ∀ {xs : List ι} {acc : List A}, (∀ x ∈ xs, cstep vs h tt te (f x) env = some (if b x then some (v x) else none, env)) → acc.length + xs.length ≤ sizeLine →
    compG vs h tt te (xs.map f) acc env = some (acc ++ (xs.filter b).map v, env)
  | [], acc, _, _ => by simp [compG]
  | x :: xs, acc, hs, hl => by
    have hx := hs x List.mem_cons_self
    have hs' := fun y hy => hs y (List.mem_cons_of_mem _ hy)
    rw [List.length_cons] at hl
    rw [List.map_cons, compG_cons, hx, Option.bind_some]
    cases hb : b x with
    | true =>
      simp only [if_true]
      rw [if_pos (by omega), compG_map f b v hs' (by rw [List.length_append]; simp; omega), List.filter_cons_of_pos hb]
      simp
    | false =>
      simp only [Bool.false_eq_true, if_false]
      rw [compG_map f b v hs' (by omega), List.filter_cons_of_neg (by simp [hb])]
/-- a comprehension over what a walk gives -/
theorem gComp_map {it : Dl.Env → Option (List A × Dl.Env)} (f : ι → A) (b : ι → Bool) (v : ι → A) {xs : List ι} {e1 : Dl.Env} (hit : it env = some (xs.map f, e1)) (off : offE e1 vs = true)
    (hs : ∀ x ∈ xs, cstep vs h tt te (f x) (wipeE e1 vs) = some (if b x then some (v x) else none, wipeE e1 vs)) (hl : xs.length ≤ sizeLine) : gComp it vs h tt te env = some (.ow (ow ((xs.filter b).map v)), e1) := by
  unfold gComp
  rw [hit, Option.bind_some]
  simp only []
  rw [if_pos off, compG_map f b v hs (by simpa using hl)]
  simp [backE_wipe]
/-- .. all items taken -/
theorem gComp_all {it : Dl.Env → Option (List A × Dl.Env)} (f : ι → A) (v : ι → A) {xs : List ι} {e1 : Dl.Env} (hit : it env = some (xs.map f, e1)) (off : offE e1 vs = true)
    (hs : ∀ x ∈ xs, cstep vs h tt te (f x) (wipeE e1 vs) = some (some (v x), wipeE e1 vs)) (hl : xs.length ≤ sizeLine) : gComp it vs h tt te env = some (.ow (ow (xs.map v)), e1) := by
  rw [gComp_map f (fun _ => true) v hit off (fun x hx => by rw [hs x hx]; rfl) hl]
  congr; simp
/-- .. by its turns -/
theorem loopG_ix {b : GS} (f : ι → A) (xs : List ι) (I : Nat → Dl.Env → Prop) (hs : ∀ i env (hi : i < xs.length), I i env → ∃ e1 e2, h (f xs[i]) env = some e1 ∧ b e1 = some (.nx, e2) ∧ I (i + 1) e2) (h0 : I 0 env) :
    ∃ e', loopG h b (xs.map f) env = some (.nx, e') ∧ I xs.length e' := by
  suffices H : ∀ k i env, xs.length - i = k → i ≤ xs.length → I i env → ∃ e', loopG h b ((xs.drop i).map f) env = some (.nx, e') ∧ I xs.length e' by
    simpa using H xs.length 0 env (by omega) (Nat.zero_le _) h0
  intro k
  induction k with
  | zero =>
    intro i env hk hi hI
    have : i = xs.length := by omega
    subst this
    exact ⟨env, by rw [List.drop_length]; rfl, hI⟩
  | succ k ih =>
    intro i env hk hi hI
    have hi' : i < xs.length := by omega
    obtain ⟨e1, e2, h1, h2, h3⟩ := hs i env hi' hI
    obtain ⟨e', h4, h5⟩ := ih (i + 1) e2 (by omega) hi' h3
    refine ⟨e', ?_, h5⟩
    rw [List.drop_eq_getElem_cons hi', List.map_cons]
    show ((h (f xs[i]) env).bind fun e1 => (b e1).bind fun p => match p.1 with
      | .nx => loopG h b ((xs.drop (i + 1)).map f) p.2
      | .ct => loopG h b ((xs.drop (i + 1)).map f) p.2
      | .bk => some (.nx, p.2)
      | .rt o => some (.rt o, p.2)
      | .er x => some (.er x, p.2)) = _
    rw [h1, Option.bind_some, h2, Option.bind_some]
    exact h4
/-- .. over a range -/
theorem loopG_rg {b : GS} {n : Nat} (I : Nat → Dl.Env → Prop) (hs : ∀ i env, i < n → I i env → ∃ e1 e2, h (nA i) env = some e1 ∧ b e1 = some (.nx, e2) ∧ I (i + 1) e2) (h0 : I 0 env) :
    ∃ e', loopG h b ((List.range n).map nA) env = some (.nx, e') ∧ I n e' := by
  obtain ⟨e', h1, h2⟩ := loopG_ix (h := h) (b := b) (env := env) nA (List.range n) I (fun i env hi hI => by
    have := hs i env (by simpa using hi) hI
    simpa using this) h0
  exact ⟨e', h1, by simpa using h2⟩
end
/-! ## evaluation: the parts of the language -/
section
variable {env : Dl.Env}
@[simp] theorem gV_ev {i : Nat} : gV i env = match env[i]? with
  | some (.fl (.fz a)) => some (.fz a, env)
  | some .un => none
  | some _ => some (.pl i, env)
  | none => none := (rfl)
@[simp] theorem gK_ev {a : A} : gK a env = some (.fz a, env) := (rfl)
@[simp] theorem gT_ev {g : G} : gT g env = (g env).om fun p => (p.1.tmp, p.2) := (rfl)
@[simp] theorem tmp_fz {a : A} : (R.fz a).tmp = .fz a := (rfl)
@[simp] theorem tmp_pl {i : Nat} : (R.pl i).tmp = .pl i := (rfl)
@[simp] theorem tmp_pf {i : Nat} {n : Str} : (R.pf i n).tmp = .pf i n := (rfl)
@[simp] theorem tmp_owl {xs : List A} : (R.ow (.fl (.lst xs))).tmp = .fz (.lst xs) := (rfl)
@[simp] theorem tmp_owk {ks : List Key} {xs : List A} : (R.ow (.fl (.dK ks xs))).tmp = .fz (.dK ks xs) := (rfl)
@[simp] theorem tmp_owt {ks : List (List Key)} {xs : List A} : (R.ow (.fl (.dT ks xs))).tmp = .fz (.dT ks xs) := (rfl)
@[simp] theorem tmp_owz {a : A} : (R.ow (.fl (.fz a))).tmp = .fz a := (rfl)
@[simp] theorem tmp_owi {c : Nat} {ns : List Str} {fs : List Fl} : (R.ow (.ins c ns fs)).tmp = .fz (.ins c ns (fs.map Fl.frz)) := (rfl)
@[simp] theorem vw_fz {a : A} : (R.fz a).vw env = some a := (rfl)
@[simp] theorem vw_pl {i : Nat} : (R.pl i).vw env = env[i]?.ob O.vw := (rfl)
@[simp] theorem vw_pf {i : Nat} {f : Str} : (R.pf i f).vw env = env[i]?.ob (O.fvw f) := (rfl)
@[simp] theorem vw_ow {o : O} : (R.ow o).vw env = o.vw := (rfl)
@[simp] theorem ovw_un : O.un.vw = none := (rfl)
@[simp] theorem ovw_fl {f : Fl} : (O.fl f).vw = some f.frz := (rfl)
@[simp] theorem ovw_ins {c : Nat} {ns : List Str} {fs : List Fl} : (O.ins c ns fs).vw = some (.ins c ns (fs.map Fl.frz)) := (rfl)
@[simp] theorem frz_fz {a : A} : (Fl.fz a).frz = a := (rfl)
@[simp] theorem frz_lst {xs : List A} : (Fl.lst xs).frz = .lst xs := (rfl)
@[simp] theorem frz_dK {ks : List Key} {xs : List A} : (Fl.dK ks xs).frz = .dK ks xs := (rfl)
@[simp] theorem frz_dT {ks : List (List Key)} {xs : List A} : (Fl.dT ks xs).frz = .dT ks xs := (rfl)
@[simp] theorem fvw_ins {f : Str} {c : Nat} {ns : List Str} {fs : List Fl} : (O.ins c ns fs).fvw f = (fld ns fs f).om Fl.frz := (rfl)
@[simp] theorem isOw_fz {a : A} : (R.fz a).isOw = false := (rfl)
@[simp] theorem isOw_pl {i : Nat} : (R.pl i).isOw = false := (rfl)
@[simp] theorem isOw_pf {i : Nat} {f : Str} : (R.pf i f).isOw = false := (rfl)
@[simp] theorem isPf_fz {a : A} : (R.fz a).isPf = false := (rfl)
@[simp] theorem isPf_pl {i : Nat} : (R.pl i).isPf = false := (rfl)
@[simp] theorem isPf_ow {o : O} : (R.ow o).isPf = false := (rfl)
@[simp] theorem isPf_pf {i : Nat} {f : Str} : (R.pf i f).isPf = true := (rfl)
@[simp] theorem gTwo_ev {pb : Bool} {ga gb : G} : gTwo pb ga gb env = (ga env).ob fun p => (gb p.2).ob fun q => if p.1.tmp.isOw || (p.1.isPf && !pb) then none else (p.1.tmp.vw q.2).ob fun a => (q.1.vw q.2).ob fun b => some (a, b, q.2) := (rfl)
@[simp] theorem gOp_ev {pb : Bool} {f : A → A → Option A} {ga gb : G} : gOp pb f ga gb env = (gTwo pb ga gb env).ob fun p => (f p.1 p.2.1).om fun c => (.fz c, p.2.2) := (rfl)
@[simp] theorem gOpN_ev {pb : Bool} {f : A → A → Option (List A)} {ga gb : G} : gOpN pb f ga gb env = (gTwo pb ga gb env).ob fun p => (f p.1 p.2.1).om fun c => (.ow (ow c), p.2.2) := (rfl)
@[simp] theorem gOpU_ev {pb : Bool} {f : A → A → Option (List A)} {ga gb : G} : gOpU pb f ga gb env = (gTwo pb ga gb env).ob fun p => (f p.1 p.2.1).om fun c => (.fz (.tup c), p.2.2) := (rfl)
@[simp] theorem gOne_ev {ga : G} : gOne ga env = (ga env).ob fun p => (p.1.vw p.2).om fun a => (a, p.2) := (rfl)
@[simp] theorem gUn_ev {f : A → Option A} {ga : G} : gUn f ga env = (gOne ga env).ob fun p => (f p.1).om fun c => (.fz c, p.2) := (rfl)
@[simp] theorem gUnN_ev {f : A → Option (List A)} {ga : G} : gUnN f ga env = (gOne ga env).ob fun p => (f p.1).om fun c => (.ow (ow c), p.2) := (rfl)
@[simp] theorem gUnU_ev {f : A → Option (List A)} {ga : G} : gUnU f ga env = (gOne ga env).ob fun p => (f p.1).om fun c => (.fz (.tup c), p.2) := (rfl)
@[simp] theorem settle_fz {pu : Bool} {a : A} : (R.fz a).settle pu env = some (a, env) := (rfl)
@[simp] theorem settle_pl {i : Nat} : (R.pl i).settle false env = env[i]?.ob fun o => o.vw.om fun a => (a, env.set i (.fl (.fz a))) := (rfl)
@[simp] theorem settle_ow {pu : Bool} {o : O} : (R.ow o).settle pu env = o.vw.om fun a => (a, env) := (rfl)
@[simp] theorem gS_ev {pu : Bool} {g : G} : gS pu g env = (g env).ob fun p => p.1.settle pu p.2 := (rfl)
@[simp] theorem gFr_ev {pu : Bool} {g : G} : gFr pu g env = (gS pu g env).om fun p => (.fz p.1, p.2) := (rfl)
@[simp] theorem gNil_ev : gNil env = some ([], env) := (rfl)
@[simp] theorem gCons_ev {ga : Dl.Env → Option (A × Dl.Env)} {gr : Dl.Env → Option (List A × Dl.Env)} : gCons ga gr env = (ga env).ob fun p => (gr p.2).om fun q => (p.1 :: q.1, q.2) := (rfl)
@[simp] theorem gTup_ev {g : Dl.Env → Option (List A × Dl.Env)} : gTup g env = (g env).ob fun p => if p.1.length ≤ sizeLine then some (.fz (.tup p.1), p.2) else none := (rfl)
@[simp] theorem gLst_ev {g : Dl.Env → Option (List A × Dl.Env)} : gLst g env = (g env).ob fun p => if p.1.length ≤ sizeLine then some (.ow (ow p.1), p.2) else none := (rfl)
def bOf : R × Dl.Env → Option (Bool × Dl.Env)
  | (.fz (.bl b), e) => some (b, e)
  | _ => none
@[simp] theorem bOf_bl {b : Bool} {e : Dl.Env} : bOf (.fz (.bl b), e) = some (b, e) := (rfl)
@[simp] theorem gB_ev {g : G} : gB g env = (g env).ob bOf := by
  unfold gB Option.ob
  congr 1
  funext p
  obtain ⟨r, e⟩ := p
  cases r with
  | fz a => cases a <;> rfl
  | _ => rfl
@[simp] theorem gNotT_ev {g : Dl.Env → Option (Bool × Dl.Env)} : gNotT g env = (g env).om fun p => (!p.1, p.2) := (rfl)
@[simp] theorem gAndT_ev {g k : Dl.Env → Option (Bool × Dl.Env)} : gAndT g k env = (g env).ob fun p => if p.1 then k p.2 else some (false, p.2) := (rfl)
@[simp] theorem gOrT_ev {g k : Dl.Env → Option (Bool × Dl.Env)} : gOrT g k env = (g env).ob fun p => if p.1 then some (true, p.2) else k p.2 := (rfl)
@[simp] theorem gBl_ev {g : Dl.Env → Option (Bool × Dl.Env)} : gBl g env = (g env).om fun p => (.fz (.bl p.1), p.2) := (rfl)
@[simp] theorem gAndV_ev {g k : G} : gAndV g k env = (gB g env).ob fun p => if p.1 then k p.2 else some (.fz (.bl false), p.2) := (rfl)
@[simp] theorem gOrV_ev {g k : G} : gOrV g k env = (gB g env).ob fun p => if p.1 then some (.fz (.bl true), p.2) else k p.2 := (rfl)
@[simp] theorem gIf_ev {c : Dl.Env → Option (Bool × Dl.Env)} {g h : G} : gIf c g h env = (c env).ob fun p => if p.1 then g p.2 else h p.2 := (rfl)
@[simp] theorem gYes_ev : gYes env = some (true, env) := (rfl)
@[simp] theorem gTru_ev {g : G} : gTru g env = (gOne g env).ob fun p => p.1.tru.om fun b => (b, p.2) := (rfl)
/-! statements -/
@[simp] theorem gSkip_ev : gSkip env = some (.nx, env) := (rfl)
def seqK (h : GS) : Fo × Dl.Env → Option (Fo × Dl.Env)
  | (.nx, e) => h e
  | (f, e) => some (f, e)
@[simp] theorem seqK_nx {h : GS} {e : Dl.Env} : seqK h (.nx, e) = h e := (rfl)
@[simp] theorem seqK_rt {h : GS} {e : Dl.Env} {o : O} : seqK h (.rt o, e) = some (.rt o, e) := (rfl)
@[simp] theorem seqK_bk {h : GS} {e : Dl.Env} : seqK h (.bk, e) = some (.bk, e) := (rfl)
@[simp] theorem seqK_er {h : GS} {e : Dl.Env} {x : Ev} : seqK h (.er x, e) = some (.er x, e) := (rfl)
@[simp] theorem seqK_ct {h : GS} {e : Dl.Env} : seqK h (.ct, e) = some (.ct, e) := (rfl)
@[simp] theorem gSeq_ev {g h : GS} : gSeq g h env = (g env).ob (seqK h) := by
  unfold gSeq Option.ob
  congr 1
  funext ⟨f, e⟩
  cases f <;> rfl
@[simp] theorem gDo_ev {g : G} : gDo g env = (g env).om fun p => (.nx, p.2) := (rfl)
@[simp] theorem gIfS_ev {c : Dl.Env → Option (Bool × Dl.Env)} {g h : GS} : gIfS c g h env = (c env).ob fun p => if p.1 then g p.2 else h p.2 := (rfl)
@[simp] theorem gFor_ev {it : Dl.Env → Option (List A × Dl.Env)} {h : A → Dl.Env → Option Dl.Env} {b : GS} : gFor it h b env = (it env).ob fun p => loopG h b p.1 p.2 := (rfl)
@[simp] theorem loopG_nil {h : A → Dl.Env → Option Dl.Env} {b : GS} : loopG h b [] env = some (.nx, env) := (rfl)
@[simp] theorem gNever_ev : gNever env = none := (rfl)
@[simp] theorem gRetN_ev : gRetN env = some (.rt (.fl (.fz .non)), env) := (rfl)
@[simp] theorem gBrk_ev : gBrk env = some (.bk, env) := (rfl)
@[simp] theorem gCnt_ev : gCnt env = some (.ct, env) := (rfl)
@[simp] theorem hName_ev {i : Nat} {a : A} : hName i a env = some (env.set i (.fl (.fz a))) := (rfl)
@[simp] theorem wipeE_nil : wipeE env [] = env := (rfl)
@[simp] theorem wipeE_cons {v : Nat} {vs : List Nat} : wipeE env (v :: vs) = (wipeE env vs).set v .un := (rfl)
end
end Fn
namespace Fn
open PySem PySem.Spec L2 Dl
section
variable {env : Dl.Env}
@[simp] theorem backE_nil {e0 e : Dl.Env} : backE e0 e [] = e := (rfl)
@[simp] theorem backE_cons {e0 e : Dl.Env} {v : Nat} {vs : List Nat} : backE e0 e (v :: vs) = match e0[v]? with
    | some o => (backE e0 e vs).set v o
    | none => backE e0 e vs := (rfl)
/-! assignments, returns -/
def asgK (i : Nat) : R × Dl.Env → Option (Fo × Dl.Env)
  | (.ow o, e) => some (.nx, e.set i o)
  | (r, e) => (r.settle false e).map fun q => (.nx, q.2.set i (.fl (.fz q.1)))
@[simp] theorem gAsg_ev {i : Nat} {g : G} : gAsg i g env = (g env).ob (asgK i) := by
  unfold gAsg Option.ob; congr 1; funext ⟨r, e⟩; cases r <;> rfl
@[simp] theorem asgK_ow {i : Nat} {o : O} {e : Dl.Env} : asgK i (.ow o, e) = some (.nx, e.set i o) := (rfl)
@[simp] theorem asgK_fz {i : Nat} {a : A} {e : Dl.Env} : asgK i (.fz a, e) = some (.nx, e.set i (fz a)) := (rfl)
@[simp] theorem asgK_pl {i j : Nat} {e : Dl.Env} : asgK i (.pl j, e) = ((R.pl j).settle false e).om fun q => (.nx, q.2.set i (fz q.1)) := (rfl)
def retK (np : Nat) : R × Dl.Env → Option (Fo × Dl.Env)
  | (.ow o, e) => some (.rt o, e)
  | (.fz a, e) => some (.rt (.fl (.fz a)), e)
  | (.pl i, e) => if i < np then none else e[i]?.map fun o => (.rt o, e.set i .un)
  | (.pf _ _, _) => none
@[simp] theorem gRet_ev {np : Nat} {g : G} : gRet np g env = (g env).ob (retK np) := by
  unfold gRet Option.ob; congr 1; funext ⟨r, e⟩; cases r <;> rfl
@[simp] theorem retK_ow {i : Nat} {o : O} {e : Dl.Env} : retK i (.ow o, e) = some (.rt o, e) := (rfl)
@[simp] theorem retK_fz {i : Nat} {a : A} {e : Dl.Env} : retK i (.fz a, e) = some (.rt (fz a), e) := (rfl)
@[simp] theorem retK_pl {i j : Nat} {e : Dl.Env} : retK i (.pl j, e) = if j < i then none else e[j]?.om fun o => (.rt o, e.set j .un) := (rfl)
/-! targets -/
@[simp] theorem hNil_ev : hNil [] env = some env := (rfl)
@[simp] theorem hCons_ev {h : A → Dl.Env → Option Dl.Env} {hs : List A → Dl.Env → Option Dl.Env} {a : A} {as : List A} : hCons h hs (a :: as) env = (h a env).ob (hs as) := (rfl)
@[simp] theorem hTup_ev {n : Nat} {hs : List A → Dl.Env → Option Dl.Env} {l : List A} : hTup n hs (.tup l) env = if l.length = n then hs l env else none := (rfl)
@[simp] theorem gAsgT_ev {h : A → Dl.Env → Option Dl.Env} {g : Dl.Env → Option (A × Dl.Env)} : gAsgT h g env = (g env).ob fun p => (h p.1 p.2).om fun e => (.nx, e) := (rfl)
/-! calls -/
@[simp] theorem argO_fz {a : A} : argO env (.fz a) = some (fz a) := (rfl)
def notUn : Option O → Option O
  | some .un => none
  | o => o
@[simp] theorem notUn_fl {f : Fl} : notUn (some (.fl f)) = some (.fl f) := (rfl)
@[simp] theorem notUn_ins {c : Nat} {ns : List Str} {fs : List Fl} : notUn (some (.ins c ns fs)) = some (.ins c ns fs) := (rfl)
@[simp] theorem argO_pl {i : Nat} : argO env (.pl i) = notUn env[i]? := by
  show (match env[i]? with | some .un => none | o => o) = _
  cases env[i]? with
  | none => rfl
  | some o => cases o <;> rfl
@[simp] theorem argOs_nil : argOs env [] = some [] := (rfl)
@[simp] theorem argOs_cons {r : R} {rs : List R} : argOs env (r :: rs) = (argO env r).ob fun o => (argOs env rs).om (o :: ·) := (rfl)
@[simp] theorem plIdx_nil : plIdx [] = [] := (rfl)
@[simp] theorem plIdx_fz {a : A} {rs : List R} : plIdx (.fz a :: rs) = plIdx rs := (rfl)
@[simp] theorem plIdx_pl {i : Nat} {rs : List R} : plIdx (.pl i :: rs) = i :: plIdx rs := (rfl)
@[simp] theorem backO_nil {os : List O} : backO env [] os = env := by cases os <;> rfl
@[simp] theorem backO_fz {a : A} {rs : List R} {o : O} {os : List O} : backO env (.fz a :: rs) (o :: os) = backO env rs os := (rfl)
@[simp] theorem backO_pl {i : Nat} {rs : List R} {o : O} {os : List O} : backO env (.pl i :: rs) (o :: os) = backO (env.set i o) rs os := (rfl)
@[simp] theorem toR_fz {a : A} : (O.fl (.fz a)).toR = .fz a := (rfl)
@[simp] theorem toR_l {xs : List A} : (O.fl (.lst xs)).toR = .ow (.fl (.lst xs)) := (rfl)
@[simp] theorem toR_dK {ks : List Key} {xs : List A} : (O.fl (.dK ks xs)).toR = .ow (.fl (.dK ks xs)) := (rfl)
@[simp] theorem toR_dT {ks : List (List Key)} {xs : List A} : (O.fl (.dT ks xs)).toR = .ow (.fl (.dT ks xs)) := (rfl)
@[simp] theorem toR_ins {c : Nat} {ns : List Str} {fs : List Fl} : (O.ins c ns fs).toR = .ow (.ins c ns fs) := (rfl)
@[simp] theorem callG_ev {f : GF} {rs : List R} : callG f rs env = if (plIdx rs).Nodup then (argOs env rs).ob fun os => (f os).om fun p => (p.1.toR, backO env rs p.2) else none := (rfl)
@[simp] theorem gA0_ev : gA0 env = some ([], env) := (rfl)
@[simp] theorem gA_ev {ga : G} {gr : Dl.Env → Option (List R × Dl.Env)} : gA ga gr env = (ga env).ob fun p => if p.1.isPf || p.1.tmp.isOw then none else (gr p.2).om fun q => (p.1.tmp :: q.1, q.2) := (rfl)
@[simp] theorem gCall_ev {f : GF} {ds : List A} {g : Dl.Env → Option (List R × Dl.Env)} : gCall f ds g env = (g env).ob fun p => callG f (p.1 ++ ds.map .fz) p.2 := (rfl)
@[simp] theorem insOf_ins {c c' : Nat} {m : Str} {ns : List Str} {xs : List A} : insOf c m (.ins c' ns xs) = (c' == c && !ns.contains m) := (rfl)
@[simp] theorem gMeth_ev {c : Nat} {m : Str} {f : GF} {ds : List A} {go : G} {g : Dl.Env → Option (List R × Dl.Env)} : gMeth c m f ds go g env = (go env).ob fun p => if p.1.isPf || p.1.tmp.isOw then none else
  (p.1.tmp.vw p.2).ob fun a => if insOf c m a then (g p.2).ob fun q => callG f (p.1.tmp :: (q.1 ++ ds.map .fz)) q.2 else none := (rfl)
@[simp] theorem gCls_ev {c : Nat} {f : GF} {g : Dl.Env → Option (List R × Dl.Env)} : gCls c f g env = (g env).ob fun p => callG f (.fz (.kls c) :: p.1) p.2 := (rfl)
@[simp] theorem gSta_ev {f : GF} {g : Dl.Env → Option (List R × Dl.Env)} : gSta f g env = (g env).ob fun p => callG f p.1 p.2 := (rfl)
@[simp] theorem isIns_ins {c c' : Nat} {ns : List Str} {xs : List A} : (A.ins c' ns xs).isIns c = (c' == c) := (rfl)
@[simp] theorem gSup_ev {c : Nat} {f : GF} {g : Dl.Env → Option (List R × Dl.Env)} : gSup c f g env = (gT (gV 0) env).ob fun o => (o.1.vw o.2).ob fun a => if a.isIns c then (g env).ob fun p => callG f (o.1 :: p.1) p.2 else none := (rfl)
def op2K (cond : A → A → Bool) (sw : Bool) (f : GF) : List R × Dl.Env → Option (R × Dl.Env)
  | ([r1, r2], e) => (r1.vw e).bind fun a => (r2.vw e).bind fun b => if cond a b then callG f (if sw then [r2, r1] else [r1, r2]) e else none
  | _ => none
@[simp] theorem op2K_two {cond : A → A → Bool} {sw : Bool} {f : GF} {r1 r2 : R} {e : Dl.Env} : op2K cond sw f ([r1, r2], e) = (r1.vw e).ob fun a => (r2.vw e).ob fun b => if cond a b then callG f (if sw then [r2, r1] else [r1, r2]) e else none := (rfl)
@[simp] theorem gOp2_ev {cond : A → A → Bool} {sw : Bool} {f : GF} {ga gb : G} : gOp2 cond sw f ga gb env = (gA ga (gA gb gA0) env).ob (op2K cond sw f) := by
  unfold gOp2 Option.ob; congr 1; funext ⟨rs, e⟩
  match rs with
  | [] => rfl
  | [_] => rfl
  | [_, _] => rfl
  | _ :: _ :: _ :: _ => rfl
def op1K (cond : A → Bool) (f : GF) : List R × Dl.Env → Option (R × Dl.Env)
  | ([r1], e) => (r1.vw e).bind fun a => if cond a then callG f [r1] e else none
  | _ => none
@[simp] theorem op1K_one {cond : A → Bool} {f : GF} {r1 : R} {e : Dl.Env} : op1K cond f ([r1], e) = (r1.vw e).ob fun a => if cond a then callG f [r1] e else none := (rfl)
@[simp] theorem gOp1_ev {cond : A → Bool} {f : GF} {ga : G} : gOp1 cond f ga env = (gA ga gA0 env).ob (op1K cond f) := by
  unfold gOp1 Option.ob; congr 1; funext ⟨rs, e⟩
  match rs with
  | [] => rfl
  | [_] => rfl
  | _ :: _ :: _ => rfl
@[simp] theorem bothIns_ev {c : Nat} {a b : A} : bothIns c a b = (a.isIns c && b.isIns c) := (rfl)
@[simp] theorem leftIns_ev {c : Nat} {a b : A} : leftIns c a b = a.isIns c := (rfl)
@[simp] theorem rightIns_ev {c : Nat} {a b : A} : rightIns c a b = b.isIns c := (rfl)
@[simp] theorem negR_bl {neg b : Bool} : negR neg (.fz (.bl b)) = some (.fz (.bl (if neg then !b else b))) := (rfl)
@[simp] theorem gInO_ev {c : Nat} {neg : Bool} {f : GF} {ga gb : G} : gInO c neg f ga gb env = (gOp2 (rightIns c) true f ga gb env).ob fun p => (negR neg p.1).om fun r => (r, p.2) := (rfl)
@[simp] theorem gNeO_ev {c : Nat} {f : GF} {ga gb : G} : gNeO c f ga gb env = (gOp2 (bothIns c) false f ga gb env).ob fun p => (negR true p.1).om fun r => (r, p.2) := (rfl)
/-! fields -/
@[simp] theorem fldR_fz {i : Nat} {n : Str} {a : A} : fldR i n (.fz a) = .fz a := (rfl)
@[simp] theorem fldR_lst {i : Nat} {n : Str} {xs : List A} : fldR i n (.lst xs) = .pf i n := (rfl)
@[simp] theorem fldR_dK {i : Nat} {n : Str} {ks : List Key} {xs : List A} : fldR i n (.dK ks xs) = .pf i n := (rfl)
def fldK (c : Nat) (n : Str) : R × Dl.Env → Option (R × Dl.Env)
  | (.fz (.ins c' ns xs), e) => if c' = c then ((ns.zip xs).lookup n).map fun a => (.fz a, e) else none
  | (.pl i, e) => match e[i]? with
    | some (.ins c' ns fs) => if c' = c then (fld ns fs n).map fun f => (fldR i n f, e) else none
    | _ => none
  | _ => none
@[simp] theorem fldK_fz {c : Nat} {n : Str} {c' : Nat} {ns : List Str} {xs : List A} {e : Dl.Env} : fldK c n (.fz (.ins c' ns xs), e) = if c' = c then ((ns.zip xs).lookup n).om fun a => (.fz a, e) else none := (rfl)
@[simp] theorem fldK_pl {c : Nat} {n : Str} {i : Nat} {e : Dl.Env} : fldK c n (.pl i, e) = match e[i]? with
    | some (.ins c' ns fs) => if c' = c then (fld ns fs n).om fun f => (fldR i n f, e) else none
    | _ => none := (rfl)
@[simp] theorem gFld_ev {c : Nat} {n : Str} {g : G} : gFld c n g env = (g env).ob fun p => fldK c n (p.1.tmp, p.2) := by
  unfold gFld Option.ob; congr 1; funext ⟨r, e⟩
  simp only
  cases r.tmp with
  | fz a => cases a <;> rfl
  | _ => rfl
@[simp] theorem gAlt_ev {g h : G} : gAlt g h env = (g env).orElse fun _ => h env := by
  unfold gAlt
  cases g env <;> rfl
@[simp] theorem gAltT_ev {g h : Dl.Env → Option (Bool × Dl.Env)} : gAltT g h env = (g env).orElse fun _ => h env := by
  unfold gAltT
  cases g env <;> rfl
@[simp] theorem gItAlt_ev {g h : Dl.Env → Option (List A × Dl.Env)} : gItAlt g h env = (g env).orElse fun _ => h env := by
  unfold gItAlt
  cases g env <;> rfl
/-! instances made -/
def makeK (n : Nat) : R × Dl.Env → Option (R × Dl.Env)
  | (.fz .non, e) => (e[n]?).map fun o => (.ow o, e.take n)
  | _ => none
@[simp] theorem makeK_non {n : Nat} {e : Dl.Env} : makeK n (.fz .non, e) = (e[n]?).om fun o => (.ow o, e.take n) := (rfl)
@[simp] theorem makeG_ev {c : Nat} {f : GF} {rs : List R} : makeG c f rs env = (callG f (.pl env.length :: rs) (env ++ [.ins c [] []])).ob (makeK env.length) := by
  unfold makeG Option.ob; congr 1; funext ⟨r, e⟩
  cases r with
  | fz a => cases a <;> rfl
  | _ => rfl
@[simp] theorem gMakeR_ev {c : Nat} {f : GF} {ds : List A} {g : Dl.Env → Option (List R × Dl.Env)} : gMakeR c f ds g env = (g env).ob fun p => makeG c f (p.1 ++ ds.map .fz) p.2 := (rfl)
@[simp] theorem gMakeR0_ev {c n : Nat} {f : GF} {g : Dl.Env → Option (List R × Dl.Env)} : gMakeR0 c n f g env = (g env).ob fun p => if p.1.length = n then makeG c f (p.1 ++ [.fz (.dK [] [])]) p.2 else none := (rfl)
@[simp] theorem gMakeN_ev {i c : Nat} {f : GF} {g : Dl.Env → Option (List R × Dl.Env)} : gMakeN i c f g env = match env[i]? with
  | some (.fl (.fz (.kls c'))) => if c' = c then (g env).ob fun p => makeG c f p.1 p.2 else none
  | _ => none := (rfl)
def stK (f : GF) (xs : List A) : List R × Dl.Env → Option (R × Dl.Env)
  | ([r], e) => callG f [r, .fz (.tup xs)] e
  | _ => none
@[simp] theorem stK_one {f : GF} {xs : List A} {r : R} {e : Dl.Env} : stK f xs ([r], e) = callG f [r, .fz (.tup xs)] e := (rfl)
@[simp] theorem gStK_ev {f : GF} {g : Dl.Env → Option (A × Dl.Env)} {ga : Dl.Env → Option (List R × Dl.Env)} : gStK f g ga env = (g env).ob fun p => p.1.lsts.ob fun xs => if xs.length ≤ sizeLine then (ga p.2).ob (stK f xs) else none := by
  unfold gStK Option.ob; congr 1; funext p; congr 1; funext xs; congr 1; congr 1; funext ⟨rs, e⟩
  match rs with
  | [] => rfl
  | [_] => rfl
  | _ :: _ :: _ => rfl
/-! places -/
@[simp] theorem getP_pl {i : Nat} : getP env (.pl i) = env[i]?.ob O.flat := (rfl)
@[simp] theorem getP_pf {i : Nat} {n : Str} : getP env (.pf i n) = env[i]?.ob (O.fldO n) := (rfl)
@[simp] theorem flat_fl {f : Fl} : (O.fl f).flat = some f := (rfl)
@[simp] theorem fldO_ins {n : Str} {c : Nat} {ns : List Str} {fs : List Fl} : (O.ins c ns fs).fldO n = fld ns fs n := (rfl)
@[simp] theorem putP_pl {i : Nat} {x : Fl} : putP env (.pl i) x = env.set i (.fl x) := (rfl)
@[simp] theorem putP_pf {i : Nat} {n : Str} {x : Fl} : putP env (.pf i n) x = match env[i]? with
    | some o => env.set i (o.putFld n x)
    | none => env := (rfl)
@[simp] theorem putFld_ins {n : Str} {x : Fl} {c : Nat} {ns : List Str} {fs : List Fl} : (O.ins c ns fs).putFld n x = .ins c ns (setFld ns fs n x) := (rfl)
@[simp] theorem setFld_cons {n m : Str} {ns : List Str} {f x : Fl} {fs : List Fl} : setFld (n :: ns) (f :: fs) m x = if m == n then x :: fs else f :: setFld ns fs m x := (rfl)
@[simp] theorem fld_ev {ns : List Str} {fs : List Fl} {f : Str} : fld ns fs f = (ns.zip fs).lookup f := (rfl)
@[simp] theorem isL_lst {xs : List A} : (Fl.lst xs).isL = true := (rfl)
@[simp] theorem own_lst {xs : List A} : (Fl.lst xs).own = true := (rfl)
@[simp] theorem gPlc_ev {f : Fl → List A → Option (Fl × A)} {pa : Bool} {g : G} {ga : Dl.Env → Option (List A × Dl.Env)} : gPlc f pa g ga env = (g env).ob fun p => (getP p.2 p.1).ob fun f0 => if f0.isL && (!p.1.isPf || pa) then
  (ga p.2).ob fun q => (getP q.2 p.1).ob fun fl => if fl.own then (f fl q.1).om fun z => (.fz z.2, putP q.2 p.1 z.1) else none
  else none := (rfl)
@[simp] theorem pAppend_ev {xs : List A} {a : A} : pAppend (.lst xs) [a] = if xs.length < sizeLine then some (.lst (xs ++ [a]), .non) else none := (rfl)
def setK (e : Dl.Env) (r : R) (v : A) : Fl → A → Option (Fo × Dl.Env)
  | .lst xs, .int k => (ixN xs.length k).map fun j => (.nx, putP e r (.lst (xs.set j v)))
  | _, _ => none
@[simp] theorem setK_ev {e : Dl.Env} {r : R} {v : A} {xs : List A} {k : Int} : setK e r v (.lst xs) (.int k) = (ixN xs.length k).om fun j => (.nx, putP e r (.lst (xs.set j v))) := (rfl)
@[simp] theorem gSetI_ev {pi : Bool} {gv : Dl.Env → Option (A × Dl.Env)} {g gi : G} : gSetI pi gv g gi env = (gv env).ob fun p => (g p.2).ob fun q => if (!q.1.isPf || pi) then (gOne gi q.2).ob fun z => (getP z.2 q.1).ob fun fl => setK z.2 q.1 p.1 fl z.1 else none := (rfl)
@[simp] theorem putZ_nil {κ β : Type} [DecidableEq κ] {q : κ} {y : β} : putZ [] [] q y = ([q], [y]) := (rfl)
@[simp] theorem putD_dK {ks : List Key} {xs : List A} {k a : A} : putD (.dK ks xs) k a = (keyA k).ob fun q => if ks.Nodup ∧ ks.length < sizeLine then some (.dK (putZ ks xs q a).1 (putZ ks xs q a).2) else none := (rfl)
@[simp] theorem keyA_int {i : Int} : keyA (.int i) = some (.inl i) := (rfl)
@[simp] theorem keyA_str {s : Str} : keyA (.str s) = some (.inr s) := (rfl)
@[simp] theorem gDPut_ev {pk : Bool} {gv : Dl.Env → Option (A × Dl.Env)} {g gk : G} : gDPut pk gv g gk env = (gv env).ob fun p => (g p.2).ob fun q => if (!q.1.isPf || pk) then (gOne gk q.2).ob fun z => (getP z.2 q.1).ob fun fl => (putD fl z.1 p.1).om fun fl' => (.nx, putP z.2 q.1 fl') else none := (rfl)
@[simp] theorem gDNew_ev {f : Fl} : gDNew f env = some (.ow (.fl f), env) := (rfl)
/-! chains -/
def chK (f' : A → A → Option A) (gc : G) (b : A) (e : Dl.Env) : A → Option (R × Dl.Env)
  | .bl true => (gOne gc e).bind fun q => (f' b q.1).map fun c => (.fz c, q.2)
  | .bl false => some (.fz (.bl false), e)
  | _ => none
@[simp] theorem chK_bl {f' : A → A → Option A} {gc : G} {b : A} {e : Dl.Env} {k : Bool} : chK f' gc b e (.bl k) = if k then (gOne gc e).ob fun q => (f' b q.1).om fun c => (.fz c, q.2) else some (.fz (.bl false), e) := by cases k <;> rfl
@[simp] theorem gChain_ev {f f' : A → A → Option A} {ga gb gc : G} : gChain f f' ga gb gc env = (gTwo true ga gb env).ob fun p => (f p.1 p.2.1).ob fun z => chK f' gc p.2.1 p.2.2 z := (rfl)
/-! fields set -/
@[simp] theorem toFl_fz {a : A} {e : Dl.Env} : toFl (.fz a) e = some (.fz a, e) := (rfl)
@[simp] theorem toFl_ow {f : Fl} {e : Dl.Env} : toFl (.ow (.fl f)) e = some (f, e) := (rfl)
@[simp] theorem toFl_pl {i : Nat} {e : Dl.Env} : toFl (.pl i) e = ((R.pl i).settle false e).om fun p => (.fz p.1, p.2) := (rfl)
def setFK (i c : Nat) (n : Str) : Fl × Dl.Env → Option (Fo × Dl.Env) := fun q => match q.2[i]? with
  | some (.ins c' ns fs) => if c' = c ∧ ns.length = fs.length ∧ fs.length < 1000 then some (.nx, q.2.set i (.ins c (putZ ns fs n q.1).1 (putZ ns fs n q.1).2)) else none
  | _ => none
@[simp] theorem setFK_ev {i c : Nat} {n : Str} {f : Fl} {e : Dl.Env} : setFK i c n (f, e) = match e[i]? with
  | some (.ins c' ns fs) => if c' = c ∧ ns.length = fs.length ∧ fs.length < 1000 then some (.nx, e.set i (.ins c (putZ ns fs n f).1 (putZ ns fs n f).2)) else none
  | _ => none := (rfl)
@[simp] theorem gSetF_ev {i c : Nat} {n : Str} {g : G} : gSetF i c n g env = (g env).ob fun p => (toFl p.1 p.2).ob (setFK i c n) := (rfl)
@[simp] theorem putZ_cons {κ β : Type} [DecidableEq κ] {k q : κ} {ks : List κ} {x y : β} {xs : List β} : putZ (k :: ks) (x :: xs) q y = if k = q then (k :: ks, y :: xs) else ((k :: (putZ ks xs q y).1), x :: (putZ ks xs q y).2) := (rfl)
/-! walks -/
@[simp] theorem lsts_lst {xs : List A} : (A.lst xs).lsts = some xs := (rfl)
@[simp] theorem lsts_tup {xs : List A} : (A.tup xs).lsts = none := (rfl)
@[simp] theorem tups_tup {xs : List A} : (A.tup xs).tups = some xs := (rfl)
@[simp] theorem tups_lst {xs : List A} : (A.lst xs).tups = none := (rfl)
@[simp] theorem items_lst {xs : List A} : (A.lst xs).items = some xs := (rfl)
@[simp] theorem items_tup {xs : List A} : (A.tup xs).items = some xs := (rfl)
@[simp] theorem int?_int {i : Int} : (A.int i).int? = some i := (rfl)
@[simp] theorem str?_str {s : Str} : (A.str s).str? = some s := (rfl)
@[simp] theorem gItL_ev {g : Dl.Env → Option (A × Dl.Env)} : gItL g env = (g env).ob fun p => p.1.lsts.om fun xs => (xs, p.2) := (rfl)
@[simp] theorem gItT_ev {g : Dl.Env → Option (A × Dl.Env)} : gItT g env = (g env).ob fun p => p.1.tups.om fun xs => (xs, p.2) := (rfl)
@[simp] theorem rg1_nat {n : Nat} : rg1 (n : Int) = (List.range n).map nA := by simp [rg1]
/-- a choice that nothing evaluates -/
noncomputable def cIf {α : Type} (c : Prop) (x y : α) : α := @ite α c (Classical.propDecidable c) x y
@[simp] theorem cIf_t {α : Type} {x y : α} : cIf True x y = x := by unfold cIf; simp
@[simp] theorem cIf_f {α : Type} {x y : α} : cIf False x y = y := by unfold cIf; simp
theorem ite_cl {α : Type} {c : Prop} {d : Decidable c} {x y : α} : @ite α c d x y = cIf c x y := by unfold cIf; by_cases h : c <;> simp [h]
/-- a number small enough for a walk -/
def Sm (n : Nat) : Prop := n ≤ 16777216
theorem Sm.of {n : Nat} (h : n ≤ 1000000) : Sm n := by unfold Sm; omega
theorem Sm.c {n : Nat} (h : Sm n) : -(2 ^ 62) ≤ (n : Int) ∧ (n : Int) < 2 ^ 62 := by
  unfold Sm at h
  omega
theorem Sm.le {n : Nat} (h : Sm n) : n ≤ sizeLine := h
noncomputable def rgK : A × Dl.Env → Option (List A × Dl.Env) := fun p => p.1.int?.bind fun j => cIf (-(2 ^ 62) ≤ j ∧ j < 2 ^ 62) (some (rg1 j, p.2)) none
theorem bind_ite_some {β : Type} {c : Int → Prop} {x : Int} (h : c x) {f : Int → β} : ((some x).bind fun j => cIf (c j) (some (f j)) none) = some (f x) := by simp [h]
@[simp] theorem rgK_nat {n : Nat} (h : Sm n) : rgK (.int (n : Int), env) = some ((List.range n).map nA, env) := by
  have := bind_ite_some (c := fun j => -(2 ^ 62) ≤ j ∧ j < 2 ^ 62) (x := (n : Int)) (f := fun j => (rg1 j, env)) h.c
  rw [rg1_nat] at this
  exact this
@[simp] theorem gItR1_ev {g : G} : gItR1 g env = (gOne g env).ob rgK := by
  exact congrArg (Option.bind _) (funext fun p => congrArg (Option.bind _) (funext fun j => ite_cl))
noncomputable def rgK2 : A × A × Dl.Env → Option (List A × Dl.Env) := fun p => p.1.int?.bind fun i => p.2.1.int?.bind fun j => cIf (-(2 ^ 62) ≤ i ∧ i < 2 ^ 62 ∧ -(2 ^ 62) ≤ j ∧ j < 2 ^ 62) (some (rg2 i j, p.2.2)) none
theorem bind_ite_some2 {β : Type} {c : Int → Int → Prop} {x y : Int} (h : c x y) {f : Int → Int → β} : ((some x).bind fun i => (some y).bind fun j => cIf (c i j) (some (f i j)) none) = some (f x y) := by simp [h]
@[simp] theorem rgK2_nat {m n : Nat} (hm : Sm m) (hn : Sm n) : rgK2 (.int (m : Int), .int (n : Int), env) = some ((List.range' m (n - m)).map nA, env) := by
  have := bind_ite_some2 (c := fun i j => -(2 ^ 62) ≤ i ∧ i < 2 ^ 62 ∧ -(2 ^ 62) ≤ j ∧ j < 2 ^ 62) (x := (m : Int)) (y := (n : Int)) (f := fun i j => (rg2 i j, env)) ⟨hm.c.1, hm.c.2, hn.c.1, hn.c.2⟩
  have e : rg2 (m : Int) (n : Int) = (List.range' m (n - m)).map nA := by
    unfold rg2
    rw [show ((n : Int) - m).toNat = n - m by omega, List.range'_eq_map_range, List.map_map]
    rfl
  rw [e] at this
  exact this
@[simp] theorem gItR2_ev {pb : Bool} {g h : G} : gItR2 pb g h env = (gTwo pb g h env).ob rgK2 := by
  exact congrArg (Option.bind _) (funext fun p => congrArg (Option.bind _) (funext fun i => congrArg (Option.bind _) (funext fun j => ite_cl)))
@[simp] theorem gItS_ev {g : G} : gItS g env = (gOne g env).ob fun p => p.1.str?.om fun z => (strA z, p.2) := (rfl)
@[simp] theorem gItES_ev {g : G} : gItES g env = (gOne g env).ob fun p => p.1.str?.om fun z => (enumA (strA z), p.2) := (rfl)
@[simp] theorem gItE_ev {g : Dl.Env → Option (A × Dl.Env)} : gItE g env = (g env).ob fun p => p.1.lsts.om fun xs => (enumA xs, p.2) := (rfl)
@[simp] theorem gItET_ev {g : Dl.Env → Option (A × Dl.Env)} : gItET g env = (g env).ob fun p => p.1.tups.om fun xs => (enumA xs, p.2) := (rfl)
@[simp] theorem gItZ_ev {g h : Dl.Env → Option (A × Dl.Env)} : gItZ g h env = (g env).ob fun p => (h p.2).ob fun q => p.1.lsts.ob fun xs => q.1.lsts.om fun ys => (zipA xs ys, q.2) := (rfl)
@[simp] theorem gItZT_ev {g h : Dl.Env → Option (A × Dl.Env)} : gItZT g h env = (g env).ob fun p => (h p.2).ob fun q => p.1.tups.ob fun xs => q.1.tups.om fun ys => (zipA xs ys, q.2) := (rfl)
@[simp] theorem keysD_dK {ks : List Key} {xs : List A} : (A.dK ks xs).keysD = some (ks.map keyT) := (rfl)
@[simp] theorem noEr_nx {e : Dl.Env} : noEr (.nx, e) = some (.nx, e) := (rfl)
@[simp] theorem noEr_rt {o : O} {e : Dl.Env} : noEr (.rt o, e) = some (.rt o, e) := (rfl)
@[simp] theorem gForD_ev {sel : A → Option (List A)} {loc : Dl.Env → Option A} {h : A → Dl.Env → Option Dl.Env} {b : GS} : gForD sel loc h b env = (loc env).ob fun a => (sel a).ob fun xs => (loopG h b xs env).ob noEr := (rfl)
@[simp] theorem lcV_ev {i : Nat} : lcV i env = match env[i]? with
  | some (.fl (.fz a)) => some a
  | _ => none := (rfl)
/-! defs -/
@[simp] theorem fzn_fz {a : A} : (O.fl (.fz a)).fzn = true := (rfl)
@[simp] theorem finO_nil {ra : List Nat} {k : Nat} : finO ra k [] env = [] := by cases env <;> rfl
@[simp] theorem finO_cons {ra : List Nat} {k : Nat} {o e : O} {os : List O} : finO ra k (o :: os) (e :: env) = (if ra.contains k then o else e) :: finO ra (k + 1) os env := (rfl)
def fnK (ra : List Nat) (os : List O) : Fo × Dl.Env → Option (O × List O)
  | (.rt o, e) => some (o, finO ra 0 os e)
  | (.nx, e) => some (.fl (.fz .non), finO ra 0 os e)
  | _ => none
@[simp] theorem fnK_rt {ra : List Nat} {os : List O} {o : O} {e : Dl.Env} : fnK ra os (.rt o, e) = some (o, finO ra 0 os e) := (rfl)
@[simp] theorem fnK_nx {ra : List Nat} {os : List O} {e : Dl.Env} : fnK ra os (.nx, e) = some (fz .non, finO ra 0 os e) := (rfl)
theorem fnD_ev {ra : List Nat} {n m : Nat} {body : GS} {os : List O} : fnD ra n m body os = if os.length = n ∧ okRa ra os = true then (body (os ++ List.replicate m .un)).ob (fnK ra os) else none := by
  unfold fnD Option.ob
  congr 1; congr 1; funext ⟨f, e⟩
  cases f <;> rfl
@[simp] theorem okRa_nil {os : List O} : okRa [] os = true := (rfl)
end
/-! ## operations -/
@[simp] theorem fI0_ev {g : Int → Int → A} {i j : Int} : fI0 g (.int i) (.int j) = some (g i j) := (rfl)
@[simp] theorem fI_ev {C : Int → Int → Prop} {d : ∀ i j, Decidable (C i j)} {g : Int → Int → A} {i j : Int} : @fI C d g (.int i) (.int j) = cIf (C i j) (some (g i j)) none := ite_cl
@[simp] theorem fEq_int {i j : Int} : fEq (.int i) (.int j) = some (.bl (decide (i = j))) := by simp [fEq, A.sc, scal]
@[simp] theorem fNe_int {i j : Int} : fNe (.int i) (.int j) = some (.bl (!decide (i = j))) := by simp [fNe, A.sc, scal]
@[simp] theorem fEq_str {i j : Str} : fEq (.str i) (.str j) = some (.bl (decide (i = j))) := by simp [fEq, A.sc, scal]
@[simp] theorem fNe_str {i j : Str} : fNe (.str i) (.str j) = some (.bl (!decide (i = j))) := by simp [fNe, A.sc, scal]
@[simp] theorem fLen_lst {xs : List A} : fLen (.lst xs) = some (.int xs.length) := (rfl)
@[simp] theorem fLen_tup {xs : List A} : fLen (.tup xs) = some (.int xs.length) := (rfl)
@[simp] theorem fLenS_str {z : Str} : fLenS (.str z) = if z.length ≤ sizeLine then some (.int z.length) else none := (rfl)
@[simp] theorem fLenK_dK {ks : List Key} {xs : List A} : fLenK (.dK ks xs) = some (.int ks.length) := (rfl)
@[simp] theorem fInt_int {i : Int} : fInt (.int i) = some (.int i) := (rfl)
@[simp] theorem fAbs_int {i : Int} : fAbs (.int i) = some (.int (if i < 0 then -i else i)) := (rfl)
@[simp] theorem bls_map {ι : Type} {f : ι → Bool} : ∀ {xs : List ι}, bls (xs.map fun x => A.bl (f x)) = some (xs.map f)
  | [] => rfl
  | x :: xs => by show (bls (xs.map fun x => A.bl (f x))).map _ = _; rw [bls_map]; rfl
@[simp] theorem fAll_map {ι : Type} {f : ι → Bool} {xs : List ι} : fAll (.lst (xs.map fun x => A.bl (f x))) = some (.bl (xs.all f)) := by
  show (bls _).map _ = _; rw [bls_map]; simp [List.all_map]
@[simp] theorem fAny_map {ι : Type} {f : ι → Bool} {xs : List ι} : fAny (.lst (xs.map fun x => A.bl (f x))) = some (.bl (xs.any f)) := by
  show (bls _).map _ = _; rw [bls_map]; simp [List.any_map]
@[simp] theorem ixN_nat {n k : Nat} : ixN n (k : Int) = if k < n then some k else none := by
  unfold ixN
  rw [if_pos (by omega)]
  by_cases h : k < n
  · rw [if_pos h]; simp [h]
  · rw [if_neg h]; simp [h]
theorem atI_nat {α : Type} {xs : List α} {k : Nat} : atI xs (k : Int) = xs[k]? := by
  unfold atI
  rw [ixN_nat]
  by_cases h : k < xs.length
  · rw [if_pos h]; rfl
  · rw [if_neg h, List.getElem?_eq_none (by omega)]; rfl
@[simp] theorem atI_nat' {α : Type} {xs : List α} {k : Nat} : atI xs (k : Int) = xs[k]? := atI_nat
@[simp] theorem atI_0 {α : Type} {xs : List α} : atI xs 0 = xs[0]? := atI_nat (k := 0)
@[simp] theorem atI_1 {α : Type} {xs : List α} : atI xs 1 = xs[1]? := atI_nat (k := 1)
@[simp] theorem atI_2 {α : Type} {xs : List α} : atI xs 2 = xs[2]? := atI_nat (k := 2)
@[simp] theorem atI_3 {α : Type} {xs : List α} : atI xs 3 = xs[3]? := atI_nat (k := 3)
@[simp] theorem atI_4 {α : Type} {xs : List α} : atI xs 4 = xs[4]? := atI_nat (k := 4)
@[simp] theorem ixN_0 {n : Nat} : ixN n 0 = if 0 < n then some 0 else none := ixN_nat (k := 0)
@[simp] theorem ixN_1 {n : Nat} : ixN n 1 = if 1 < n then some 1 else none := ixN_nat (k := 1)
@[simp] theorem ixN_2 {n : Nat} : ixN n 2 = if 2 < n then some 2 else none := ixN_nat (k := 2)
@[simp] theorem ixN_3 {n : Nat} : ixN n 3 = if 3 < n then some 3 else none := ixN_nat (k := 3)
@[simp] theorem fIxL_ev {xs : List A} {i : Int} : fIxL (.lst xs) (.int i) = atI xs i := (rfl)
@[simp] theorem fIxT_ev {xs : List A} {i : Int} : fIxT (.tup xs) (.int i) = atI xs i := (rfl)
@[simp] theorem fIxS_ev {z : Str} {i : Int} : fIxS (.str z) (.int i) = if z.length ≤ sizeLine then (atI z.cps.toList i).om fun c => .str ⟨#[c]⟩ else none := (rfl)
@[simp] theorem fAddS_ev {i j : Str} : fAddS (.str i) (.str j) = if i.length + j.length ≤ sizeLine then some (.str (i ++ j)) else none := (rfl)
@[simp] theorem fCat_ev {xs ys : List A} : fCat (.lst xs) (.lst ys) = if xs.length + ys.length ≤ sizeLine then some (xs ++ ys) else none := (rfl)
@[simp] theorem fLtS_ev {i j : Str} : fLtS (.str i) (.str j) = some (.bl (decide (i.cps.toList < j.cps.toList))) := (rfl)
@[simp] theorem fLeS_ev {i j : Str} : fLeS (.str i) (.str j) = some (.bl (!decide (j.cps.toList < i.cps.toList))) := (rfl)
theorem rgOk_nat {n : Nat} (h : Sm n) : RgOk 0 n := by
  unfold RgOk
  unfold Sm at h
  have := Sm.c h
  exact ⟨by decide, by decide, this.1, this.2, by omega⟩
theorem rgA_nat {n : Nat} : rgA 0 (n : Int) = (List.range n).map nA := by
  unfold rgA
  simp
@[simp] theorem fRg1_nat {n : Nat} (h : Sm n) : fRg1 (.int (n : Int)) = some ((List.range n).map nA) := by
  show (if RgOk 0 n then some (rgA 0 n) else none) = _
  rw [if_pos (rgOk_nat h), rgA_nat]
theorem scs_nat : ∀ {xs : List Nat}, scs (xs.map nA) = some (xs.map fun n : Nat => V.int (n : Int))
  | [] => rfl
  | x :: xs => by show ((A.int x).sc.bind fun v => (scs (xs.map nA)).map (v :: ·)) = _; rw [scs_nat]; rfl
theorem inV_nat {w : Nat} : ∀ {xs : List Nat}, inV (.int (w : Int)) (xs.map fun n : Nat => V.int (n : Int)) = decide (w ∈ xs)
  | [] => rfl
  | x :: xs => by
    have ih := inV_nat (w := w) (xs := xs)
    unfold inV at ih ⊢
    rw [List.map_cons, List.any_cons, ih]
    by_cases h : x = w
    · subst h; simp [eqV]
    · have h' : w ≠ x := fun z => h z.symm
      have h2 : (x : Int) ≠ (w : Int) := by omega
      simp [eqV, h', h2]
@[simp] theorem fInS_nat {neg : Bool} {w : Nat} {xs : List Nat} : fInS neg (.int (w : Int)) (.lst (xs.map nA)) = some (.bl (if neg then !decide (w ∈ xs) else decide (w ∈ xs))) := by
  simp [fInS, A.sc, A.items, scs_nat, inV_nat]
@[simp] theorem fInS_natT {neg : Bool} {w : Nat} {xs : List Nat} : fInS neg (.int (w : Int)) (.tup (xs.map nA)) = some (.bl (if neg then !decide (w ∈ xs) else decide (w ∈ xs))) := by
  simp [fInS, A.sc, A.items, scs_nat, inV_nat]
/-! ## data -/
structure Dat {α : Type} (e : α → A) (P : α → Prop) (d : Nat) : Prop where
  ex : ∃ g : α → PyData, (∀ x, (e x).toD = some (g x)) ∧ (∀ x y, PyData.eqv (g x) (g y) = true ↔ x = y) ∧ (∀ x, P x → (g x).canLay0 = true) ∧ ∀ x, (g x).depth ≤ d
theorem dat_int : Dat A.int (fun _ => True) 0 := ⟨fun i => .int i, fun _ => rfl, fun i j => by simp [PyData.eqv], fun _ _ => by simp [PyData.canLay0], fun _ => by simp [PyData.depth]⟩
theorem dat_nat : Dat nA (fun _ => True) 0 := ⟨fun i => .int i, fun _ => rfl, fun i j => by simp [PyData.eqv]; omega, fun _ _ => by simp [PyData.canLay0], fun _ => by simp [PyData.depth]⟩
section
variable {α : Type} {e : α → A} {P : α → Prop} {d : Nat}
theorem toDL_map {g : α → PyData} (h : ∀ x, (e x).toD = some (g x)) : ∀ {xs : List α}, A.toDL (xs.map e) = some (xs.map g)
  | [] => by simp [A.toDL]
  | x :: xs => by rw [List.map_cons, A.toDL, h x, toDL_map h]; rfl
theorem eqvAll_map {g : α → PyData} (h : ∀ x y, PyData.eqv (g x) (g y) = true ↔ x = y) : ∀ {xs ys : List α}, PyData.eqvAll (xs.map g) (ys.map g) = true ↔ xs = ys
  | [], [] => by simp [PyData.eqvAll]
  | [], _ :: _ => by simp [PyData.eqvAll]
  | _ :: _, [] => by simp [PyData.eqvAll]
  | x :: xs, y :: ys => by simp [PyData.eqvAll, h, eqvAll_map h]
theorem layAll_map {g : α → PyData} (h : ∀ x, P x → (g x).canLay0 = true) : ∀ {xs : List α}, (∀ x ∈ xs, P x) → PyData.canLayAll0 (xs.map g) = true
  | [], _ => by simp [PyData.canLayAll0]
  | x :: xs, p => by simp [PyData.canLayAll0, h x (p x List.mem_cons_self), layAll_map h fun y hy => p y (List.mem_cons_of_mem _ hy)]
theorem depAll_map {g : α → PyData} (h : ∀ x, (g x).depth ≤ d) : ∀ {xs : List α}, PyData.depthAll (xs.map g) ≤ d
  | [] => by simp [PyData.depthAll]
  | x :: xs => by
    have := h x
    have := depAll_map h (xs := xs)
    rw [List.map_cons, PyData.depthAll]
    omega
theorem Dat.lst (h : Dat e P d) : Dat (fun xs : List α => .lst (xs.map e)) (fun xs => ∀ x ∈ xs, P x) (d + 1) := by
  obtain ⟨g, h1, h2, h3, h4⟩ := h
  refine ⟨fun xs => .list (xs.map g), fun xs => by simp [A.toD, toDL_map h1], fun x y => by simp [PyData.eqv, eqvAll_map h2], fun x p => by simp [PyData.canLay0, layAll_map h3 p], fun x => by have := depAll_map h4 (xs := x); rw [PyData.depth]; omega⟩
theorem Dat.tup (h : Dat e P d) : Dat (fun xs : List α => .tup (xs.map e)) (fun xs => ∀ x ∈ xs, P x) (d + 1) := by
  obtain ⟨g, h1, h2, h3, h4⟩ := h
  refine ⟨fun xs => .tuple (xs.map g), fun xs => by simp [A.toD, toDL_map h1], fun x y => by simp [PyData.eqv, eqvAll_map h2], fun x p => by simp [PyData.canLay0, layAll_map h3 p], fun x => by have := depAll_map h4 (xs := x); rw [PyData.depth]; omega⟩
theorem Dat.pair {β : Type} {e' : β → A} {P' : β → Prop} (h : Dat e P d) (h' : Dat e' P' d) : Dat (fun p : α × β => .tup [e p.1, e' p.2]) (fun p => P p.1 ∧ P' p.2) (d + 1) := by
  obtain ⟨g, h1, h2, h3, h4⟩ := h
  obtain ⟨g', h1', h2', h3', h4'⟩ := h'
  refine ⟨fun p => .tuple [g p.1, g' p.2], fun xs => by simp [A.toD, A.toDL, h1, h1'], fun x y => by simp [PyData.eqv, PyData.eqvAll, h2, h2', Prod.ext_iff], fun x p => by simp [PyData.canLay0, PyData.canLayAll0, h3 _ p.1, h3' _ p.2], fun x => by have := h4 x.1; have := h4' x.2; simp only [PyData.depth, PyData.depthAll]; omega⟩
theorem Dat.shape {g : α → PyData} (h3 : ∀ x, P x → (g x).canLay0 = true) (h4 : ∀ x, (g x).depth ≤ d) (hd : d ≤ 64) {x : α} (p : P x) : SeqAt.shaped (g x) = true := by
  have := h4 x
  unfold SeqAt.shaped
  rw [h3 x p, decide_eq_true (by omega)]
  rfl
theorem Dat.eq (h : Dat e P d) (hd : d ≤ 64) [DecidableEq α] {x y : α} (px : P x) (py : P y) : fEqD (e x) (e y) = some (.bl (decide (x = y))) := by
  obtain ⟨g, h1, h2, h3, h4⟩ := h
  have e1 : PyData.eqv (g x) (g y) = decide (x = y) := by
    by_cases c : x = y
    · rw [decide_eq_true c]; exact (h2 x y).mpr c
    · rw [decide_eq_false c]; exact Bool.eq_false_iff.mpr fun z => c ((h2 x y).mp z)
  simp [fEqD, h1, Dat.shape h3 h4 hd px, Dat.shape h3 h4 hd py, e1]
theorem Dat.ne (h : Dat e P d) (hd : d ≤ 64) [DecidableEq α] {x y : α} (px : P x) (py : P y) : fNeD (e x) (e y) = some (.bl (!decide (x = y))) := by
  obtain ⟨g, h1, h2, h3, h4⟩ := h
  have e1 : PyData.eqv (g x) (g y) = decide (x = y) := by
    by_cases c : x = y
    · rw [decide_eq_true c]; exact (h2 x y).mpr c
    · rw [decide_eq_false c]; exact Bool.eq_false_iff.mpr fun z => c ((h2 x y).mp z)
  simp [fNeD, h1, Dat.shape h3 h4 hd px, Dat.shape h3 h4 hd py, e1]
end
@[simp] theorem fEqD_int {i j : Int} : fEqD (.int i) (.int j) = some (.bl (decide (i = j))) := dat_int.eq (by decide) trivial trivial
@[simp] theorem fNeD_int {i j : Int} : fNeD (.int i) (.int j) = some (.bl (!decide (i = j))) := dat_int.ne (by decide) trivial trivial
@[simp] theorem fEqD_nats {xs ys : List Nat} : fEqD (.lst (xs.map nA)) (.lst (ys.map nA)) = some (.bl (decide (xs = ys))) := dat_nat.lst.eq (by decide) (fun _ _ => trivial) (fun _ _ => trivial)
@[simp] theorem fNeD_nats {xs ys : List Nat} : fNeD (.lst (xs.map nA)) (.lst (ys.map nA)) = some (.bl (!decide (xs = ys))) := dat_nat.lst.ne (by decide) (fun _ _ => trivial) (fun _ _ => trivial)
end Fn
namespace Fn
open PySem PySem.Spec L2 Dl Dg
/-! ## the law's draws -/
structure Box where
  cells : List Int
  at_ : Nat
  carry : Int
  hash : Int
def Box.enc (b : Box) : List A := [.lst (b.cells.map A.int), nA b.at_, .int b.carry, .int b.hash]
abbrev bx (b : Box) : O := .fl (.lst b.enc)
def Box.ok (b : Box) : Prop := 0 ≤ b.hash ∧ b.hash < 2147483647 ∧ 0 ≤ b.carry ∧ ∀ c ∈ b.cells, 0 ≤ c
theorem to_nat {x : Int} {m : Nat} (h0 : 0 ≤ x) (h1 : x < m) : ∃ r : Nat, x = r ∧ r < m := ⟨x.toNat, by omega, by omega⟩
theorem take_ok {b : Box} {m : Nat} (hb : b.ok) (h0 : 0 < m) (h1 : m < 100000000000000000000000000000000000000000) : ∃ r b', r < m ∧ b'.ok ∧ D__law_take [bx b, fz (nA m)] = some (fz (nA r), [bx b', fz (nA m)]) := by
  obtain ⟨cells, at_, carry, hash⟩ := b
  obtain ⟨q0, q1, q2, q3⟩ := hb
  simp only at q0 q1 q2 q3
  have h1' : (m : Int) < 100000000000000000000000000000000000000000 := by omega
  have h0' : (0 : Int) < m := by omega
  have e18 : CPow 10 18 := by unfold CPow; decide
  have md : ∀ x : Int, 0 ≤ x % (m : Int) ∧ x % (m : Int) < m := fun x => ⟨Int.emod_nonneg _ (by omega), Int.emod_lt_of_pos _ h0'⟩
  by_cases c : 0 < carry
  · obtain ⟨r, hr, lr⟩ := to_nat (md carry).1 (md carry).2
    refine ⟨r, ⟨cells, at_, carry / m, hash⟩, lr, ⟨q0, q1, Int.ediv_nonneg q2 (by omega), q3⟩, ?_⟩
    unfold D__law_take
    rw [fnD_ev]
    unfold Db__law_take
    simp [Box.enc, c, h0, h1', CDivB, hr]
  · have hc : carry = 0 := by omega
    subst hc
    have fin : ∀ (cell : Int) (at' : Nat), 0 ≤ cell → ∃ r b', r < m ∧ Box.ok b' ∧ (if 1000000000000000000 ≤ cell then b' = ⟨cells, at', cell / m, hash⟩ ∧ (r : Int) = cell % m else b' = ⟨cells, at', 0, (hash * 48271 + cell) % 2147483647⟩ ∧ (r : Int) = (hash * 48271 + cell) % 2147483647 * 69621 % 2147483629 / 16 % m) := by
      intro cell at' h
      by_cases d : 1000000000000000000 ≤ cell
      · obtain ⟨r, hr, lr⟩ := to_nat (md cell).1 (md cell).2
        exact ⟨r, ⟨cells, at', cell / m, hash⟩, lr, ⟨q0, q1, Int.ediv_nonneg h (Int.le_of_lt h0'), q3⟩, by rw [if_pos d]; exact ⟨rfl, hr.symm⟩⟩
      · obtain ⟨r, hr, lr⟩ := to_nat (md ((hash * 48271 + cell) % 2147483647 * 69621 % 2147483629 / 16)).1 (md _).2
        exact ⟨r, ⟨cells, at', 0, (hash * 48271 + cell) % 2147483647⟩, lr, ⟨Int.emod_nonneg (hash * 48271 + cell) (b := 2147483647) (by decide), Int.emod_lt_of_pos (hash * 48271 + cell) (b := 2147483647) (by decide), Int.le_refl 0, q3⟩, by rw [if_neg d]; exact ⟨rfl, hr.symm⟩⟩
    have m1 : CMul hash 48271 := .inr (by decide)
    have m2 : ∀ x : Int, CMul x 69621 := fun x => .inr (by decide)
    by_cases a : at_ < cells.length
    · obtain ⟨cell, hcell⟩ : ∃ cell, cells[at_] = cell := ⟨_, rfl⟩
      have hpos : 0 ≤ cell := q3 cell (by rw [← hcell]; exact List.getElem_mem a)
      obtain ⟨r, b', lr, ob, e⟩ := fin cell (at_ + 1) hpos
      refine ⟨r, b', lr, ob, ?_⟩
      unfold D__law_take
      rw [fnD_ev]
      unfold Db__law_take
      by_cases d : 1000000000000000000 ≤ cell
      · rw [if_pos d] at e
        obtain ⟨rfl, e⟩ := e
        simp [Box.enc, h0, h1', CDivB, a, hcell, e18, d, e]
      · rw [if_neg d] at e
        obtain ⟨rfl, e⟩ := e
        simp [Box.enc, h0, h1', CDivB, a, hcell, e18, d, e, m1, m2]
    · obtain ⟨r, b', lr, ob, e⟩ := fin 0 at_ (Int.le_refl 0)
      refine ⟨r, b', lr, ob, ?_⟩
      unfold D__law_take
      rw [fnD_ev]
      unfold Db__law_take
      rw [if_neg (by decide)] at e
      obtain ⟨rfl, e⟩ := e
      have d' : ¬ (1000000000000000000 : Int) ≤ 0 := by omega
      simp [Box.enc, h0, h1', CDivB, a, e18, d', m1, m2, e]
theorem take_x {b : Box} (m : Nat) (x : Int) (hx : x = (m : Int)) (hb : b.ok) (h0 : 0 < m) (h1 : m < 100000000000000000000000000000000000000000) : ∃ r b', r < m ∧ b'.ok ∧ D__law_take [bx b, fz (.int x)] = some (fz (nA r), [bx b', fz (.int x)]) := by
  subst hx
  exact take_ok hb h0 h1
end Fn
namespace Fn
open PySem PySem.Spec L2 Dl Dg
/-! ## texts by their codes -/
abbrev S (l : List Nat) : Str := ⟨l.toArray⟩
abbrev sA (l : List Nat) : A := .str (S l)
abbrev cA (c : Nat) : A := .str ⟨#[c]⟩
@[simp] theorem S_len {l : List Nat} : (S l).length = l.length := by simp [Str.length]
theorem S_app {a b : List Nat} : S a ++ S b = S (a ++ b) := by show Str.append _ _ = _; simp [Str.append]
@[simp] theorem S_app' {a b : List Nat} : (⟨a.toArray⟩ ++ ⟨b.toArray⟩ : Str) = ⟨(a ++ b).toArray⟩ := S_app
theorem S_inj {a b : List Nat} : S a = S b ↔ a = b := by simp
@[simp] theorem cutS_pre {l : List Nat} {k : Nat} : cutS ⟨l.toArray⟩ none (some (k : Int)) = S (l.take k) := by
  simp [cutS, HT.sIx_nat, HT.sIx_none, Str.length]
@[simp] theorem cutS_suf {l : List Nat} {k : Nat} : cutS ⟨l.toArray⟩ (some (k : Int)) none = S (l.drop k) := by
  simp [cutS, HT.sIx_nat, HT.sIx_none, Str.length]
  rw [List.take_of_length_le (by simp)]
  by_cases h : k ≤ l.length
  · rw [Nat.min_eq_left h]
  · rw [Nat.min_eq_right (by omega), List.drop_of_length_le (by omega), List.drop_of_length_le (by omega)]
@[simp] theorem cutS_suf1 {l : List Nat} {k : Nat} : cutS ⟨l.toArray⟩ (some ((k : Int) + 1)) none = S (l.drop (k + 1)) := cutS_suf (k := k + 1)
def az : List Nat := List.range' 97 26
@[simp] theorem gP0_ev {env : Dl.Env} : gP0 env = some none := (rfl)
@[simp] theorem gP1_ev {g : G} {env : Dl.Env} : gP1 g env = (gOne g env).ob fun p => p.1.int?.om some := (rfl)
@[simp] theorem gSl3_ev {g : G} {gl gh : Dl.Env → Option (Option Int)} {env : Dl.Env} : gSl3 g gl gh env = (g env).ob fun p => if p.1.tmp.isOw then none else (gl p.2).ob fun l => (gh p.2).ob fun u => (p.1.tmp.vw p.2).om fun a => (a, l, u, p.2) := (rfl)
@[simp] theorem gSlL_ev {g : G} {gl gh : Dl.Env → Option (Option Int)} {env : Dl.Env} : gSlL g gl gh env = (gSl3 g gl gh env).ob fun p => p.1.lsts.om fun xs => (.ow (ow (cutA xs p.2.1 p.2.2.1)), p.2.2.2) := (rfl)
@[simp] theorem gSlS_ev {g : G} {gl gh : Dl.Env → Option (Option Int)} {env : Dl.Env} : gSlS g gl gh env = (gSl3 g gl gh env).ob fun p => (fSlS p.1 p.2.1 p.2.2.1).om fun a => (.fz a, p.2.2.2) := (rfl)
@[simp] theorem fSlS_ev {z : Str} {l u : Option Int} : fSlS (.str z) l u = if z.length ≤ sizeLine then some (.str (cutS z l u)) else none := (rfl)
end Fn
namespace Fn
open PySem PySem.Spec L2 Dl Dg
/-! ## words, people of the law -/
abbrev nL (xs : List Nat) : A := .lst (xs.map nA)
theorem sz {n : Nat} (h : n ≤ 1000000) : n ≤ sizeLine := Nat.le_trans h (by decide)
theorem szl {n : Nat} (h : n ≤ 1000000) : n < sizeLine := Nat.lt_of_le_of_lt h (by decide)
theorem mask_some : ∀ n, n ≤ 6 → ∀ m, m < 64 → 1 ≤ m → m < 2 ^ n → ∃ w, w < n ∧ m / 2 ^ w % 2 = 1 := by decide +kernel
def bit (m w : Nat) : Bool := decide (m / 2 ^ w % 2 = 1)
end Fn
namespace Fn
open PySem PySem.Spec L2 Dl Dg
abbrev Rel := Nat → Nat → Bool
abbrev LL (R : List (List Nat)) : A := .lst (R.map nL)
def rowN (n : Nat) (f : Nat → Bool) : List Nat := (List.range n).filter f
def rowsN (n : Nat) (p : Rel) : List (List Nat) := (List.range n).map fun a => rowN n (p a)
def rel (hears : List Nat) (says : List (List Nat)) : Rel := fun w o => decide (o ∈ says.getD (hears.getD w 0) [])
structure Per (n : Nat) (hears : List Nat) (says : List (List Nat)) : Prop where
  lh : hears.length = n
  hh : ∀ w ∈ hears, w < n
  ls : says.length = n
  hs : ∀ s ∈ says, s ≠ [] ∧ s.length ≤ 64 ∧ ∀ w ∈ s, w < n
end Fn
namespace Fn
open PySem PySem.Spec L2 Dl Dg
/-! ## the folk of the law -/
structure Ent where
  c : Nat
  hears : List Nat
  says : List (List Nat)
def Ent.enc (n : Nat) (e : Ent) : A := .lst [cA e.c, nL e.hears, LL e.says, LL (rowsN n (rel e.hears e.says))]
def Flat (a : A) (d : Nat) : Prop := ∃ p, a.toD = some p ∧ p.canLay0 = true ∧ p.depth ≤ d
theorem Flat.mono {a : A} {d d' : Nat} (h : Flat a d) (l : d ≤ d') : Flat a d' := by
  obtain ⟨p, h1, h2, h3⟩ := h
  exact ⟨p, h1, h2, by omega⟩
theorem Dat.flat {α : Type} {e : α → A} {P : α → Prop} {d : Nat} (h : Dat e P d) {x : α} (p : P x) : Flat (e x) d := by
  obtain ⟨g, h1, h2, h3, h4⟩ := h
  exact ⟨g x, h1 x, h3 x p, h4 x⟩
/-! the plain kinds -/
def saysId (n : Nat) : List (List Nat) := (List.range n).map fun w => [w]
theorem filter_one {n w : Nat} (h : w < n) : (List.range n).filter (fun o => decide (o ∈ [w])) = [w] := by
  induction n with
  | zero => omega
  | succ n ih =>
    rw [List.range_succ, List.filter_append]
    by_cases c : w = n
    · subst c
      have : (List.range w).filter (fun o => decide (o ∈ [w])) = [] := by
        rw [List.filter_eq_nil_iff]
        intro a m
        have : a < w := by simpa using m
        simp; omega
      rw [this]; simp
    · rw [ih (by omega)]
      have : ¬ n = w := fun z => c z.symm
      simp [this]
end Fn
namespace Fn
open PySem PySem.Spec L2 Dl Dg
@[simp] theorem cutA_1 {a : A} {xs : List A} : cutA (a :: xs) (some 1) none = xs := by
  simp [cutA, HT.sIx]
end Fn
namespace Fn
open PySem PySem.Spec L2 Dl Dg
/-! ## names of fields -/
@[simp] theorem nf01 : ¬ (("size" : Str) = "_rows") := by decide +kernel
@[simp] theorem nb01 : (("size" : Str) == "_rows") = false := by decide +kernel
@[simp] theorem nf02 : ¬ (("size" : Str) = "_pairs") := by decide +kernel
@[simp] theorem nb02 : (("size" : Str) == "_pairs") = false := by decide +kernel
@[simp] theorem nf03 : ¬ (("size" : Str) = "_hears") := by decide +kernel
@[simp] theorem nb03 : (("size" : Str) == "_hears") = false := by decide +kernel
@[simp] theorem nf04 : ¬ (("size" : Str) = "_says") := by decide +kernel
@[simp] theorem nb04 : (("size" : Str) == "_says") = false := by decide +kernel
@[simp] theorem nf05 : ¬ (("size" : Str) = "_known") := by decide +kernel
@[simp] theorem nb05 : (("size" : Str) == "_known") = false := by decide +kernel
@[simp] theorem nf06 : ¬ (("size" : Str) = "_tables") := by decide +kernel
@[simp] theorem nb06 : (("size" : Str) == "_tables") = false := by decide +kernel
@[simp] theorem nf10 : ¬ (("_rows" : Str) = "size") := by decide +kernel
@[simp] theorem nb10 : (("_rows" : Str) == "size") = false := by decide +kernel
@[simp] theorem nf12 : ¬ (("_rows" : Str) = "_pairs") := by decide +kernel
@[simp] theorem nb12 : (("_rows" : Str) == "_pairs") = false := by decide +kernel
@[simp] theorem nf13 : ¬ (("_rows" : Str) = "_hears") := by decide +kernel
@[simp] theorem nb13 : (("_rows" : Str) == "_hears") = false := by decide +kernel
@[simp] theorem nf14 : ¬ (("_rows" : Str) = "_says") := by decide +kernel
@[simp] theorem nb14 : (("_rows" : Str) == "_says") = false := by decide +kernel
@[simp] theorem nf15 : ¬ (("_rows" : Str) = "_known") := by decide +kernel
@[simp] theorem nb15 : (("_rows" : Str) == "_known") = false := by decide +kernel
@[simp] theorem nf16 : ¬ (("_rows" : Str) = "_tables") := by decide +kernel
@[simp] theorem nb16 : (("_rows" : Str) == "_tables") = false := by decide +kernel
@[simp] theorem nf20 : ¬ (("_pairs" : Str) = "size") := by decide +kernel
@[simp] theorem nb20 : (("_pairs" : Str) == "size") = false := by decide +kernel
@[simp] theorem nf21 : ¬ (("_pairs" : Str) = "_rows") := by decide +kernel
@[simp] theorem nb21 : (("_pairs" : Str) == "_rows") = false := by decide +kernel
@[simp] theorem nf23 : ¬ (("_pairs" : Str) = "_hears") := by decide +kernel
@[simp] theorem nb23 : (("_pairs" : Str) == "_hears") = false := by decide +kernel
@[simp] theorem nf24 : ¬ (("_pairs" : Str) = "_says") := by decide +kernel
@[simp] theorem nb24 : (("_pairs" : Str) == "_says") = false := by decide +kernel
@[simp] theorem nf25 : ¬ (("_pairs" : Str) = "_known") := by decide +kernel
@[simp] theorem nb25 : (("_pairs" : Str) == "_known") = false := by decide +kernel
@[simp] theorem nf26 : ¬ (("_pairs" : Str) = "_tables") := by decide +kernel
@[simp] theorem nb26 : (("_pairs" : Str) == "_tables") = false := by decide +kernel
@[simp] theorem nf30 : ¬ (("_hears" : Str) = "size") := by decide +kernel
@[simp] theorem nb30 : (("_hears" : Str) == "size") = false := by decide +kernel
@[simp] theorem nf31 : ¬ (("_hears" : Str) = "_rows") := by decide +kernel
@[simp] theorem nb31 : (("_hears" : Str) == "_rows") = false := by decide +kernel
@[simp] theorem nf32 : ¬ (("_hears" : Str) = "_pairs") := by decide +kernel
@[simp] theorem nb32 : (("_hears" : Str) == "_pairs") = false := by decide +kernel
@[simp] theorem nf34 : ¬ (("_hears" : Str) = "_says") := by decide +kernel
@[simp] theorem nb34 : (("_hears" : Str) == "_says") = false := by decide +kernel
@[simp] theorem nf35 : ¬ (("_hears" : Str) = "_known") := by decide +kernel
@[simp] theorem nb35 : (("_hears" : Str) == "_known") = false := by decide +kernel
@[simp] theorem nf36 : ¬ (("_hears" : Str) = "_tables") := by decide +kernel
@[simp] theorem nb36 : (("_hears" : Str) == "_tables") = false := by decide +kernel
@[simp] theorem nf40 : ¬ (("_says" : Str) = "size") := by decide +kernel
@[simp] theorem nb40 : (("_says" : Str) == "size") = false := by decide +kernel
@[simp] theorem nf41 : ¬ (("_says" : Str) = "_rows") := by decide +kernel
@[simp] theorem nb41 : (("_says" : Str) == "_rows") = false := by decide +kernel
@[simp] theorem nf42 : ¬ (("_says" : Str) = "_pairs") := by decide +kernel
@[simp] theorem nb42 : (("_says" : Str) == "_pairs") = false := by decide +kernel
@[simp] theorem nf43 : ¬ (("_says" : Str) = "_hears") := by decide +kernel
@[simp] theorem nb43 : (("_says" : Str) == "_hears") = false := by decide +kernel
@[simp] theorem nf45 : ¬ (("_says" : Str) = "_known") := by decide +kernel
@[simp] theorem nb45 : (("_says" : Str) == "_known") = false := by decide +kernel
@[simp] theorem nf46 : ¬ (("_says" : Str) = "_tables") := by decide +kernel
@[simp] theorem nb46 : (("_says" : Str) == "_tables") = false := by decide +kernel
@[simp] theorem nf50 : ¬ (("_known" : Str) = "size") := by decide +kernel
@[simp] theorem nb50 : (("_known" : Str) == "size") = false := by decide +kernel
@[simp] theorem nf51 : ¬ (("_known" : Str) = "_rows") := by decide +kernel
@[simp] theorem nb51 : (("_known" : Str) == "_rows") = false := by decide +kernel
@[simp] theorem nf52 : ¬ (("_known" : Str) = "_pairs") := by decide +kernel
@[simp] theorem nb52 : (("_known" : Str) == "_pairs") = false := by decide +kernel
@[simp] theorem nf53 : ¬ (("_known" : Str) = "_hears") := by decide +kernel
@[simp] theorem nb53 : (("_known" : Str) == "_hears") = false := by decide +kernel
@[simp] theorem nf54 : ¬ (("_known" : Str) = "_says") := by decide +kernel
@[simp] theorem nb54 : (("_known" : Str) == "_says") = false := by decide +kernel
@[simp] theorem nf56 : ¬ (("_known" : Str) = "_tables") := by decide +kernel
@[simp] theorem nb56 : (("_known" : Str) == "_tables") = false := by decide +kernel
@[simp] theorem nf60 : ¬ (("_tables" : Str) = "size") := by decide +kernel
@[simp] theorem nb60 : (("_tables" : Str) == "size") = false := by decide +kernel
@[simp] theorem nf61 : ¬ (("_tables" : Str) = "_rows") := by decide +kernel
@[simp] theorem nb61 : (("_tables" : Str) == "_rows") = false := by decide +kernel
@[simp] theorem nf62 : ¬ (("_tables" : Str) = "_pairs") := by decide +kernel
@[simp] theorem nb62 : (("_tables" : Str) == "_pairs") = false := by decide +kernel
@[simp] theorem nf63 : ¬ (("_tables" : Str) = "_hears") := by decide +kernel
@[simp] theorem nb63 : (("_tables" : Str) == "_hears") = false := by decide +kernel
@[simp] theorem nf64 : ¬ (("_tables" : Str) = "_says") := by decide +kernel
@[simp] theorem nb64 : (("_tables" : Str) == "_says") = false := by decide +kernel
@[simp] theorem nf65 : ¬ (("_tables" : Str) = "_known") := by decide +kernel
@[simp] theorem nb65 : (("_tables" : Str) == "_known") = false := by decide +kernel
@[simp] theorem nm0_0 : ¬ (("_check_present" : Str) = "size") := by decide +kernel
@[simp] theorem nm0_1 : ¬ (("_check_present" : Str) = "_rows") := by decide +kernel
@[simp] theorem nm0_2 : ¬ (("_check_present" : Str) = "_pairs") := by decide +kernel
@[simp] theorem nm0_3 : ¬ (("_check_present" : Str) = "_hears") := by decide +kernel
@[simp] theorem nm0_4 : ¬ (("_check_present" : Str) = "_says") := by decide +kernel
@[simp] theorem nm0_5 : ¬ (("_check_present" : Str) = "_known") := by decide +kernel
@[simp] theorem nm0_6 : ¬ (("_check_present" : Str) = "_tables") := by decide +kernel
@[simp] theorem nm1_0 : ¬ (("_entry" : Str) = "size") := by decide +kernel
@[simp] theorem nm1_1 : ¬ (("_entry" : Str) = "_rows") := by decide +kernel
@[simp] theorem nm1_2 : ¬ (("_entry" : Str) = "_pairs") := by decide +kernel
@[simp] theorem nm1_3 : ¬ (("_entry" : Str) = "_hears") := by decide +kernel
@[simp] theorem nm1_4 : ¬ (("_entry" : Str) = "_says") := by decide +kernel
@[simp] theorem nm1_5 : ¬ (("_entry" : Str) = "_known") := by decide +kernel
@[simp] theorem nm1_6 : ¬ (("_entry" : Str) = "_tables") := by decide +kernel
@[simp] theorem nm2_0 : ¬ (("_is_block" : Str) = "size") := by decide +kernel
@[simp] theorem nm2_1 : ¬ (("_is_block" : Str) = "_rows") := by decide +kernel
@[simp] theorem nm2_2 : ¬ (("_is_block" : Str) = "_pairs") := by decide +kernel
@[simp] theorem nm2_3 : ¬ (("_is_block" : Str) = "_hears") := by decide +kernel
@[simp] theorem nm2_4 : ¬ (("_is_block" : Str) = "_says") := by decide +kernel
@[simp] theorem nm2_5 : ¬ (("_is_block" : Str) = "_known") := by decide +kernel
@[simp] theorem nm2_6 : ¬ (("_is_block" : Str) = "_tables") := by decide +kernel
@[simp] theorem nm3_0 : ¬ (("_narrow" : Str) = "size") := by decide +kernel
@[simp] theorem nm3_1 : ¬ (("_narrow" : Str) = "_rows") := by decide +kernel
@[simp] theorem nm3_2 : ¬ (("_narrow" : Str) = "_pairs") := by decide +kernel
@[simp] theorem nm3_3 : ¬ (("_narrow" : Str) = "_hears") := by decide +kernel
@[simp] theorem nm3_4 : ¬ (("_narrow" : Str) = "_says") := by decide +kernel
@[simp] theorem nm3_5 : ¬ (("_narrow" : Str) = "_known") := by decide +kernel
@[simp] theorem nm3_6 : ¬ (("_narrow" : Str) = "_tables") := by decide +kernel
@[simp] theorem nm4_0 : ¬ (("_obstacle" : Str) = "size") := by decide +kernel
@[simp] theorem nm4_1 : ¬ (("_obstacle" : Str) = "_rows") := by decide +kernel
@[simp] theorem nm4_2 : ¬ (("_obstacle" : Str) = "_pairs") := by decide +kernel
@[simp] theorem nm4_3 : ¬ (("_obstacle" : Str) = "_hears") := by decide +kernel
@[simp] theorem nm4_4 : ¬ (("_obstacle" : Str) = "_says") := by decide +kernel
@[simp] theorem nm4_5 : ¬ (("_obstacle" : Str) = "_known") := by decide +kernel
@[simp] theorem nm4_6 : ¬ (("_obstacle" : Str) = "_tables") := by decide +kernel
@[simp] theorem nm5_0 : ¬ (("_only_into" : Str) = "size") := by decide +kernel
@[simp] theorem nm5_1 : ¬ (("_only_into" : Str) = "_rows") := by decide +kernel
@[simp] theorem nm5_2 : ¬ (("_only_into" : Str) = "_pairs") := by decide +kernel
@[simp] theorem nm5_3 : ¬ (("_only_into" : Str) = "_hears") := by decide +kernel
@[simp] theorem nm5_4 : ¬ (("_only_into" : Str) = "_says") := by decide +kernel
@[simp] theorem nm5_5 : ¬ (("_only_into" : Str) = "_known") := by decide +kernel
@[simp] theorem nm5_6 : ¬ (("_only_into" : Str) = "_tables") := by decide +kernel
@[simp] theorem nm6_0 : ¬ (("_out_of_each" : Str) = "size") := by decide +kernel
@[simp] theorem nm6_1 : ¬ (("_out_of_each" : Str) = "_rows") := by decide +kernel
@[simp] theorem nm6_2 : ¬ (("_out_of_each" : Str) = "_pairs") := by decide +kernel
@[simp] theorem nm6_3 : ¬ (("_out_of_each" : Str) = "_hears") := by decide +kernel
@[simp] theorem nm6_4 : ¬ (("_out_of_each" : Str) = "_says") := by decide +kernel
@[simp] theorem nm6_5 : ¬ (("_out_of_each" : Str) = "_known") := by decide +kernel
@[simp] theorem nm6_6 : ¬ (("_out_of_each" : Str) = "_tables") := by decide +kernel
@[simp] theorem nm7_0 : ¬ (("_out_of_some" : Str) = "size") := by decide +kernel
@[simp] theorem nm7_1 : ¬ (("_out_of_some" : Str) = "_rows") := by decide +kernel
@[simp] theorem nm7_2 : ¬ (("_out_of_some" : Str) = "_pairs") := by decide +kernel
@[simp] theorem nm7_3 : ¬ (("_out_of_some" : Str) = "_hears") := by decide +kernel
@[simp] theorem nm7_4 : ¬ (("_out_of_some" : Str) = "_says") := by decide +kernel
@[simp] theorem nm7_5 : ¬ (("_out_of_some" : Str) = "_known") := by decide +kernel
@[simp] theorem nm7_6 : ¬ (("_out_of_some" : Str) = "_tables") := by decide +kernel
@[simp] theorem nm8_0 : ¬ (("add" : Str) = "size") := by decide +kernel
@[simp] theorem nm8_1 : ¬ (("add" : Str) = "_rows") := by decide +kernel
@[simp] theorem nm8_2 : ¬ (("add" : Str) = "_pairs") := by decide +kernel
@[simp] theorem nm8_3 : ¬ (("add" : Str) = "_hears") := by decide +kernel
@[simp] theorem nm8_4 : ¬ (("add" : Str) = "_says") := by decide +kernel
@[simp] theorem nm8_5 : ¬ (("add" : Str) = "_known") := by decide +kernel
@[simp] theorem nm8_6 : ¬ (("add" : Str) = "_tables") := by decide +kernel
@[simp] theorem nm9_0 : ¬ (("change_limit" : Str) = "size") := by decide +kernel
@[simp] theorem nm9_1 : ¬ (("change_limit" : Str) = "_rows") := by decide +kernel
@[simp] theorem nm9_2 : ¬ (("change_limit" : Str) = "_pairs") := by decide +kernel
@[simp] theorem nm9_3 : ¬ (("change_limit" : Str) = "_hears") := by decide +kernel
@[simp] theorem nm9_4 : ¬ (("change_limit" : Str) = "_says") := by decide +kernel
@[simp] theorem nm9_5 : ¬ (("change_limit" : Str) = "_known") := by decide +kernel
@[simp] theorem nm9_6 : ¬ (("change_limit" : Str) = "_tables") := by decide +kernel
@[simp] theorem nm10_0 : ¬ (("fits" : Str) = "size") := by decide +kernel
@[simp] theorem nm10_1 : ¬ (("fits" : Str) = "_rows") := by decide +kernel
@[simp] theorem nm10_2 : ¬ (("fits" : Str) = "_pairs") := by decide +kernel
@[simp] theorem nm10_3 : ¬ (("fits" : Str) = "_hears") := by decide +kernel
@[simp] theorem nm10_4 : ¬ (("fits" : Str) = "_says") := by decide +kernel
@[simp] theorem nm10_5 : ¬ (("fits" : Str) = "_known") := by decide +kernel
@[simp] theorem nm10_6 : ¬ (("fits" : Str) = "_tables") := by decide +kernel
@[simp] theorem nm11_0 : ¬ (("heard" : Str) = "size") := by decide +kernel
@[simp] theorem nm11_1 : ¬ (("heard" : Str) = "_rows") := by decide +kernel
@[simp] theorem nm11_2 : ¬ (("heard" : Str) = "_pairs") := by decide +kernel
@[simp] theorem nm11_3 : ¬ (("heard" : Str) = "_hears") := by decide +kernel
@[simp] theorem nm11_4 : ¬ (("heard" : Str) = "_says") := by decide +kernel
@[simp] theorem nm11_5 : ¬ (("heard" : Str) = "_known") := by decide +kernel
@[simp] theorem nm11_6 : ¬ (("heard" : Str) = "_tables") := by decide +kernel
@[simp] theorem nm12_0 : ¬ (("holds" : Str) = "size") := by decide +kernel
@[simp] theorem nm12_1 : ¬ (("holds" : Str) = "_rows") := by decide +kernel
@[simp] theorem nm12_2 : ¬ (("holds" : Str) = "_pairs") := by decide +kernel
@[simp] theorem nm12_3 : ¬ (("holds" : Str) = "_hears") := by decide +kernel
@[simp] theorem nm12_4 : ¬ (("holds" : Str) = "_says") := by decide +kernel
@[simp] theorem nm12_5 : ¬ (("holds" : Str) = "_known") := by decide +kernel
@[simp] theorem nm12_6 : ¬ (("holds" : Str) = "_tables") := by decide +kernel
@[simp] theorem nm13_0 : ¬ (("informed" : Str) = "size") := by decide +kernel
@[simp] theorem nm13_1 : ¬ (("informed" : Str) = "_rows") := by decide +kernel
@[simp] theorem nm13_2 : ¬ (("informed" : Str) = "_pairs") := by decide +kernel
@[simp] theorem nm13_3 : ¬ (("informed" : Str) = "_hears") := by decide +kernel
@[simp] theorem nm13_4 : ¬ (("informed" : Str) = "_says") := by decide +kernel
@[simp] theorem nm13_5 : ¬ (("informed" : Str) = "_known") := by decide +kernel
@[simp] theorem nm13_6 : ¬ (("informed" : Str) = "_tables") := by decide +kernel
@[simp] theorem nm14_0 : ¬ (("letters" : Str) = "size") := by decide +kernel
@[simp] theorem nm14_1 : ¬ (("letters" : Str) = "_rows") := by decide +kernel
@[simp] theorem nm14_2 : ¬ (("letters" : Str) = "_pairs") := by decide +kernel
@[simp] theorem nm14_3 : ¬ (("letters" : Str) = "_hears") := by decide +kernel
@[simp] theorem nm14_4 : ¬ (("letters" : Str) = "_says") := by decide +kernel
@[simp] theorem nm14_5 : ¬ (("letters" : Str) = "_known") := by decide +kernel
@[simp] theorem nm14_6 : ¬ (("letters" : Str) = "_tables") := by decide +kernel
@[simp] theorem nm15_0 : ¬ (("put" : Str) = "size") := by decide +kernel
@[simp] theorem nm15_1 : ¬ (("put" : Str) = "_rows") := by decide +kernel
@[simp] theorem nm15_2 : ¬ (("put" : Str) = "_pairs") := by decide +kernel
@[simp] theorem nm15_3 : ¬ (("put" : Str) = "_hears") := by decide +kernel
@[simp] theorem nm15_4 : ¬ (("put" : Str) = "_says") := by decide +kernel
@[simp] theorem nm15_5 : ¬ (("put" : Str) = "_known") := by decide +kernel
@[simp] theorem nm15_6 : ¬ (("put" : Str) = "_tables") := by decide +kernel
@[simp] theorem nm16_0 : ¬ (("refute" : Str) = "size") := by decide +kernel
@[simp] theorem nm16_1 : ¬ (("refute" : Str) = "_rows") := by decide +kernel
@[simp] theorem nm16_2 : ¬ (("refute" : Str) = "_pairs") := by decide +kernel
@[simp] theorem nm16_3 : ¬ (("refute" : Str) = "_hears") := by decide +kernel
@[simp] theorem nm16_4 : ¬ (("refute" : Str) = "_says") := by decide +kernel
@[simp] theorem nm16_5 : ¬ (("refute" : Str) = "_known") := by decide +kernel
@[simp] theorem nm16_6 : ¬ (("refute" : Str) = "_tables") := by decide +kernel
@[simp] theorem nm17_0 : ¬ (("rows" : Str) = "size") := by decide +kernel
@[simp] theorem nm17_1 : ¬ (("rows" : Str) = "_rows") := by decide +kernel
@[simp] theorem nm17_2 : ¬ (("rows" : Str) = "_pairs") := by decide +kernel
@[simp] theorem nm17_3 : ¬ (("rows" : Str) = "_hears") := by decide +kernel
@[simp] theorem nm17_4 : ¬ (("rows" : Str) = "_says") := by decide +kernel
@[simp] theorem nm17_5 : ¬ (("rows" : Str) = "_known") := by decide +kernel
@[simp] theorem nm17_6 : ¬ (("rows" : Str) = "_tables") := by decide +kernel
@[simp] theorem nm18_0 : ¬ (("said" : Str) = "size") := by decide +kernel
@[simp] theorem nm18_1 : ¬ (("said" : Str) = "_rows") := by decide +kernel
@[simp] theorem nm18_2 : ¬ (("said" : Str) = "_pairs") := by decide +kernel
@[simp] theorem nm18_3 : ¬ (("said" : Str) = "_hears") := by decide +kernel
@[simp] theorem nm18_4 : ¬ (("said" : Str) = "_says") := by decide +kernel
@[simp] theorem nm18_5 : ¬ (("said" : Str) = "_known") := by decide +kernel
@[simp] theorem nm18_6 : ¬ (("said" : Str) = "_tables") := by decide +kernel
@[simp] theorem nm19_0 : ¬ (("solve" : Str) = "size") := by decide +kernel
@[simp] theorem nm19_1 : ¬ (("solve" : Str) = "_rows") := by decide +kernel
@[simp] theorem nm19_2 : ¬ (("solve" : Str) = "_pairs") := by decide +kernel
@[simp] theorem nm19_3 : ¬ (("solve" : Str) = "_hears") := by decide +kernel
@[simp] theorem nm19_4 : ¬ (("solve" : Str) = "_says") := by decide +kernel
@[simp] theorem nm19_5 : ¬ (("solve" : Str) = "_known") := by decide +kernel
@[simp] theorem nm19_6 : ¬ (("solve" : Str) = "_tables") := by decide +kernel
@[simp] theorem nm20_0 : ¬ (("through" : Str) = "size") := by decide +kernel
@[simp] theorem nm20_1 : ¬ (("through" : Str) = "_rows") := by decide +kernel
@[simp] theorem nm20_2 : ¬ (("through" : Str) = "_pairs") := by decide +kernel
@[simp] theorem nm20_3 : ¬ (("through" : Str) = "_hears") := by decide +kernel
@[simp] theorem nm20_4 : ¬ (("through" : Str) = "_says") := by decide +kernel
@[simp] theorem nm20_5 : ¬ (("through" : Str) = "_known") := by decide +kernel
@[simp] theorem nm20_6 : ¬ (("through" : Str) = "_tables") := by decide +kernel
/-! ## tables -/
section
variable {ι κ : Type} {vs vs1 : List Nat} {h h1 : A → Dl.Env → Option Dl.Env} {tt tt1 : Dl.Env → Option (Bool × Dl.Env)} {te : Dl.Env → Option (A × Dl.Env)} {it1 : Dl.Env → Option (List A × Dl.Env)}
def c2step (vs vs1 : List Nat) (h : A → Dl.Env → Option Dl.Env) (tt : Dl.Env → Option (Bool × Dl.Env)) (it1 : Dl.Env → Option (List A × Dl.Env)) (h1 : A → Dl.Env → Option Dl.Env) (tt1 : Dl.Env → Option (Bool × Dl.Env)) (te : Dl.Env → Option (A × Dl.Env)) (x : A) (acc : List A) (env : Dl.Env) : Option (List A × Dl.Env) :=
  (h x env).ob fun e1 => (tt e1).ob fun p => if p.1 then (it1 p.2).ob fun q => (compG vs1 h1 tt1 te q.1 acc (wipeE q.2 vs1)).om fun r => (r.1, wipeE r.2 vs) else some (acc, wipeE p.2 vs)
theorem comp2G_cons {x : A} {xs acc : List A} {env : Dl.Env} : comp2G vs vs1 h tt it1 h1 tt1 te (x :: xs) acc env = (c2step vs vs1 h tt it1 h1 tt1 te x acc env).bind fun p => comp2G vs vs1 h tt it1 h1 tt1 te xs p.1 p.2 := by
  rw [comp2G]
  unfold c2step Option.ob Option.om
  cases h x env with
  | none => rfl
  | some e1 =>
    simp only [Option.bind_some]
    cases tt e1 with
    | none => rfl
    | some p =>
      simp only [Option.bind_some]
      split
      · cases it1 p.2 with
        | none => rfl
        | some q =>
          simp only [Option.bind_some]
          cases compG vs1 h1 tt1 te q.1 acc (wipeE q.2 vs1) with
          | none => rfl
          | some r => rfl
      · rfl
theorem comp2G_map (M : Nat) (f : ι → A) (zs : ι → List A) {env : Dl.Env} : ∀ {xs : List ι} {acc : List A}, (∀ x ∈ xs, ∀ acc : List A, acc.length + (zs x).length ≤ M → c2step vs vs1 h tt it1 h1 tt1 te (f x) acc env = some (acc ++ zs x, env)) → acc.length + (xs.flatMap zs).length ≤ M →
    comp2G vs vs1 h tt it1 h1 tt1 te (xs.map f) acc env = some (acc ++ xs.flatMap zs, env)
  | [], acc, _, _ => by simp [comp2G]
  | x :: xs, acc, hs, hl => by
    rw [List.flatMap_cons, List.length_append] at hl
    rw [List.map_cons, comp2G_cons, hs x List.mem_cons_self acc (by omega), Option.bind_some, comp2G_map M f zs (fun y m => hs y (List.mem_cons_of_mem _ m)) (by rw [List.length_append]; omega), List.flatMap_cons, List.append_assoc]
theorem gComp2_map (M : Nat) (f : ι → A) (zs : ι → List A) {it : Dl.Env → Option (List A × Dl.Env)} {xs : List ι} {env : Dl.Env} (hit : it env = some (xs.map f, env)) (off : offE env vs = true)
    (hs : ∀ x ∈ xs, ∀ acc : List A, acc.length + (zs x).length ≤ M → c2step vs vs1 h tt it1 h1 tt1 te (f x) acc (wipeE env vs) = some (acc ++ zs x, wipeE env vs)) (hl : (xs.flatMap zs).length ≤ M) :
    gComp2 it vs vs1 h tt it1 h1 tt1 te env = some (.ow (ow (xs.flatMap zs)), env) := by
  unfold gComp2
  rw [hit, Option.bind_some]
  simp only []
  rw [if_pos off, comp2G_map M f zs hs (by simpa using hl)]
  simp [backE_wipe]
end
@[simp] theorem lk_self {α : Type} {k : Str} {b : α} {l : List (Str × α)} : List.lookup k ((k, b) :: l) = some b := by simp [List.lookup]
@[simp] theorem lk_ne {α : Type} {a k : Str} {b : α} {l : List (Str × α)} (h : (a == k) = false) : List.lookup a ((k, b) :: l) = List.lookup a l := by simp [List.lookup, h]
theorem compG_all {ι : Type} {vs : List Nat} {h : A → Dl.Env → Option Dl.Env} {tt : Dl.Env → Option (Bool × Dl.Env)} {te : Dl.Env → Option (A × Dl.Env)} {env : Dl.Env} (f : ι → A) (v : ι → A) {xs : List ι} {acc : List A} (hs : ∀ x ∈ xs, cstep vs h tt te (f x) env = some (some (v x), env)) (hl : acc.length + xs.length ≤ sizeLine) :
    compG vs h tt te (xs.map f) acc env = some (acc ++ xs.map v, env) := by
  have := compG_map (vs := vs) (h := h) (tt := tt) (te := te) (env := env) f (fun _ => true) v (xs := xs) (acc := acc) (fun x m => by rw [hs x m]; rfl) hl
  rw [List.filter_eq_self.mpr (fun _ _ => rfl)] at this
  exact this
theorem is_word_ok {w n : Nat} : D_is_word [fz (nA w), fz (nA n)] = some (fz (.bl (decide (w < n))), [fz (nA w), fz (nA n)]) := by
  simp [D_is_word, fnD_ev, Db_is_word]
def itemsA (t : Bool) (xs : List A) : A := if t then .tup xs else .lst xs
theorem all_words_ok {t : Bool} {ws : List Nat} {n : Nat} (hl : ws.length ≤ 1000000) : D_all_words [fz (itemsA t (ws.map nA)), fz (nA n)] = some (fz (.bl (ws.all fun w => decide (w < n))), [fz (itemsA t (ws.map nA)), fz (nA n)]) := by
  have c : Dc_all_words_1 [fz (itemsA t (ws.map nA)), fz (nA n), .un] = some (.ow (ow (ws.map fun w => .bl (decide (w < n)))), [fz (itemsA t (ws.map nA)), fz (nA n), .un]) := by
    unfold Dc_all_words_1
    refine gComp_all nA _ ?_ (by simp [offE]) (fun w hw => by simp [cstep, is_word_ok]) (sz hl)
    cases t <;> simp [itemsA]
  simp [D_all_words, fnD_ev, Db_all_words, c]
theorem ascending_ok {t : Bool} {ws : List Nat} {n : Nat} (hn : n ≤ 1000000) : D_ascending [fz (itemsA t (ws.map nA)), fz (nA n)] = some (ow ((rowN n fun w => decide (w ∈ ws)).map nA), [fz (itemsA t (ws.map nA)), fz (nA n)]) := by
  have sm : Sm n := .of hn
  have c : Dc_ascending_1 [fz (itemsA t (ws.map nA)), fz (nA n), .un] = some (.ow (ow ((rowN n fun w => decide (w ∈ ws)).map nA)), [fz (itemsA t (ws.map nA)), fz (nA n), .un]) := by
    unfold Dc_ascending_1
    refine gComp_map nA _ nA (by simp [sm]) (by simp [offE]) (fun w hw => ?_) (by simpa using sm.le)
    by_cases m : w ∈ ws <;> cases t <;> simp [cstep, itemsA, m]
  simp [D_ascending, fnD_ev, Db_ascending, c]
theorem is_size_ok {n : Nat} : D_is_size [fz (nA n)] = some (fz (.bl (decide (1 ≤ n) && decide (n ≤ 6))), [fz (nA n)]) := by
  by_cases c : 1 ≤ n
  · have : (1 : Int) ≤ n := by omega
    have e : decide ((n : Int) ≤ 6) = decide (n ≤ 6) := decide_eq_decide.mpr (by omega)
    simp [D_is_size, fnD_ev, Db_is_size, this, c, e]
  · have : ¬ (1 : Int) ≤ n := by omega
    simp [D_is_size, fnD_ev, Db_is_size, this, c]
theorem check_size_ok {n : Nat} (h1 : 1 ≤ n) (h6 : n ≤ 6) : D_check_size [fz (nA n)] = some (fz .non, [fz (nA n)]) := by
  simp [D_check_size, fnD_ev, Db_check_size, is_size_ok, h1, h6]
abbrev TT (R : List (List Nat)) : A := .tup (R.map fun r => .tup (r.map nA))
def pairsN (n : Nat) (p : Rel) : List (Nat × Nat) := (List.range n).flatMap fun a => (rowN n (p a)).map fun b => (a, b)
def prA (q : Nat × Nat) : A := .tup [nA q.1, nA q.2]
def tab (n : Nat) (p : Rel) : A := .ins 0 ["size", "_rows", "_pairs"] [nA n, TT (rowsN n p), .tup ((pairsN n p).map prA)]
def tabO (n : Nat) (p : Rel) : O := .ins 0 ["size", "_rows", "_pairs"] [.fz (nA n), .fz (TT (rowsN n p)), .fz (.tup ((pairsN n p).map prA))]
def relL (R : List (List Nat)) : Rel := fun a b => decide (b ∈ R.getD a [])
theorem rowsN_relL {n : Nat} {R : List (List Nat)} (hl : R.length = n) : rowsN n (relL R) = R.map fun r => rowN n fun w => decide (w ∈ r) := by
  subst hl
  refine List.ext_getElem (by simp [rowsN]) fun i h1 h2 => ?_
  have hi : i < R.length := by simpa using h2
  have e : relL R i = fun w => decide (w ∈ R[i]) := by funext w; simp [relL, List.getD, hi]
  simp [rowsN, e]
theorem rowN_len {n : Nat} {f : Nat → Bool} : (rowN n f).length ≤ n := Nat.le_trans (List.length_filter_le _ _) (by simp)
theorem pairs_len {n : Nat} {p : Rel} (hn : n ≤ 6) : (pairsN n p).length ≤ 36 := by
  have : ∀ l : List Nat, (l.flatMap fun a => (rowN n (p a)).map fun b => (a, b)).length ≤ l.length * n := by
    intro l
    induction l with
    | nil => simp
    | cons a l ih =>
      rw [List.flatMap_cons, List.length_append, List.length_map, List.length_cons, Nat.add_mul]
      have := rowN_len (n := n) (f := p a)
      omega
  have h := this (List.range n)
  rw [List.length_range] at h
  have : n * n ≤ 6 * 6 := Nat.mul_le_mul hn hn
  unfold pairsN
  omega
end Fn
namespace Fn
open PySem PySem.Spec L2 Dl Dg
theorem enumA_map {R : List (List Nat)} {g : List Nat → A} : enumA (R.map g) = R.zipIdx.map fun p => .tup [nA p.2, g p.1] := by
  unfold enumA
  rw [List.zipIdx_map, List.map_map]
  rfl
/-- Table(rows): the checks, the rows, the pairs -/
theorem init_ok {R : List (List Nat)} {n : Nat} (hl : R.length = n) (h1 : 1 ≤ n) (h6 : n ≤ 6) (hw : ∀ r ∈ R, ∀ w ∈ r, w < n) (hs : ∀ r ∈ R, r.length ≤ 1000000) :
    D_Table___init__ [.ins 0 [] [], fz (LL R)] = some (fz .non, [tabO n (relL R), fz (LL R)]) := by
  have sm : Sm n := .of (by omega)
  have aw : ∀ r ∈ R, D_all_words [fz (nL r), fz (nA n)] = some (fz (.bl true), [fz (nL r), fz (nA n)]) := fun r m => by
    have := all_words_ok (t := false) (ws := r) (n := n) (hs r m)
    rw [show (r.all fun w => decide (w < n)) = true from List.all_eq_true.mpr fun w mw => decide_eq_true (hw r m w mw)] at this
    exact this
  obtain ⟨e', lp, s3, s4, rfl⟩ := loopG_ix (h := hTup 2 (hCons (hName 3) (hCons (hName 4) hNil))) (b := Dl_Table___init___1) (env := [.ins 0 [] [], fz (LL R), fz (nA n), .un, .un, .un, .un]) (fun p : List Nat × Nat => .tup [nA p.2, nL p.1]) R.zipIdx
    (fun i env => ∃ s3 s4 : A, env = [.ins 0 [] [], fz (LL R), fz (nA n), if i = 0 then .un else fz s3, if i = 0 then .un else fz s4, .un, .un])
    (by
      rintro i env hi ⟨s3, s4, rfl⟩
      have hR : i < R.length := by simpa using hi
      have e : R.zipIdx[i] = (R[i], i) := by simp
      refine ⟨[.ins 0 [] [], fz (LL R), fz (nA n), fz (nA i), fz (nL R[i]), .un, .un], [.ins 0 [] [], fz (LL R), fz (nA n), fz (nA i), fz (nL R[i]), .un, .un], ?_, ?_, nA i, nL R[i], by simp⟩
      · rw [e]; simp
      · simp [Dl_Table___init___1, aw _ (List.getElem_mem hR)])
    ⟨.non, .non, rfl⟩
  have c1 : ∀ i s3, Dc_Table___init___1 [i, fz (LL R), fz (nA n), s3, fz s4, .un, .un] = some (.ow (ow ((rowsN n (relL R)).map fun r => .tup (r.map nA))), [i, fz (LL R), fz (nA n), s3, fz s4, .un, .un]) := fun i s3 => by
    unfold Dc_Table___init___1
    rw [rowsN_relL hl, List.map_map]
    refine gComp_all nL _ (by simp) (by simp [offE]) (fun r m => ?_) (by simpa using sz (n := R.length) (by omega))
    have := ascending_ok (t := false) (ws := r) (n := n) (by omega)
    simp only [itemsA, Bool.false_eq_true, if_false] at this
    simp [cstep, this]
  have zl : R.zipIdx.length ≠ 0 := by rw [List.length_zipIdx]; omega
  rw [if_neg zl, if_neg zl] at lp
  have l6 : ([.int 1] : List A).length ≤ sizeLine := sz (by decide)
  have p36 : (List.map prA (pairsN n (relL R))).length ≤ sizeLine := sz (by have := pairs_len (n := n) (p := relL R) h6; simp; omega)
  have c2 : ∀ s3, Dc_Table___init___2 [.ins 0 ["size", "_rows"] [.fz (nA n), .fz (TT (rowsN n (relL R)))], fz (LL R), fz (nA n), s3, fz s4, .un, .un] =
      some (.ow (ow ((pairsN n (relL R)).map prA)), [.ins 0 ["size", "_rows"] [.fz (nA n), .fz (TT (rowsN n (relL R)))], fz (LL R), fz (nA n), s3, fz s4, .un, .un]) := fun s3 => by
    unfold Dc_Table___init___2
    have hp : (pairsN n (relL R)).map prA = (rowsN n (relL R)).zipIdx.flatMap fun p => p.1.map fun b => prA (p.2, b) := by
      have : (rowsN n (relL R)).zipIdx = (List.range n).map fun a => (rowN n (relL R a), a) := by
        refine List.ext_getElem (by simp [rowsN]) fun i h1 h2 => ?_
        simp [rowsN]
      rw [this, List.flatMap_map, pairsN, List.map_flatMap]
      simp [Function.comp_def]
    rw [hp]
    refine gComp2_map 1000000 (fun p : List Nat × Nat => .tup [nA p.2, .tup (p.1.map nA)]) _ (by simp [enumA_map]) (by simp [offE]) (fun p m acc ha => ?_) (by rw [← hp]; have := pairs_len (n := n) (p := relL R) h6; simp; omega)
    have hin : ∀ s3, compG [6] (hName 6) gYes (gS true (gTup (gCons (gS true (gV 5)) (gCons (gS true (gV 6)) gNil)))) (p.1.map nA) acc [.ins 0 ["size", "_rows"] [.fz (nA n), .fz (TT (rowsN n (relL R)))], fz (LL R), fz (nA n), s3, fz (.tup (p.1.map nA)), fz (nA p.2), .un] =
        some (acc ++ p.1.map fun b => prA (p.2, b), [.ins 0 ["size", "_rows"] [.fz (nA n), .fz (TT (rowsN n (relL R)))], fz (LL R), fz (nA n), s3, fz (.tup (p.1.map nA)), fz (nA p.2), .un]) := fun s3 => by
      have l2 : (2 : Nat) ≤ sizeLine := sz (by decide)
      have := compG_all (vs := [6]) (h := hName 6) (tt := gYes) (te := gS true (gTup (gCons (gS true (gV 5)) (gCons (gS true (gV 6)) gNil)))) (env := [.ins 0 ["size", "_rows"] [.fz (nA n), .fz (TT (rowsN n (relL R)))], fz (LL R), fz (nA n), s3, fz (.tup (p.1.map nA)), fz (nA p.2), .un]) nA (fun b => prA (p.2, b)) (xs := p.1) (acc := acc)
        (fun b m => by simp [cstep, l2, prA]) (sz (by simpa using ha))
      exact this
    simp [c2step, hin]
  have cs := check_size_ok h1 h6
  have e1 : (R.length : Int) = n := by omega
  simp [D_Table___init__, fnD_ev, Db_Table___init__, e1, cs, enumA_map, lp, c1, c2, tabO]
end Fn
namespace Fn
open PySem PySem.Spec L2 Dl Dg
/-! ## tables as values -/
section
variable {n : Nat} {p q : Rel}
theorem rowN_congr {f g : Nat → Bool} (h : ∀ b, b < n → f b = g b) : rowN n f = rowN n g := List.filter_congr fun b m => h b (by simpa using m)
theorem rowsN_congr (h : ∀ a b, a < n → b < n → p a b = q a b) : rowsN n p = rowsN n q := List.map_congr_left fun a m => rowN_congr fun b hb => h a b (by simpa using m) hb
theorem pairsN_congr (h : ∀ a b, a < n → b < n → p a b = q a b) : pairsN n p = pairsN n q := by
  unfold pairsN
  rw [List.flatMap_def, List.flatMap_def]
  congr 1
  refine List.map_congr_left fun a m => ?_
  rw [rowN_congr fun b hb => h a b (by simpa using m) hb]
theorem tabO_congr (h : ∀ a b, a < n → b < n → p a b = q a b) : tabO n p = tabO n q := by
  unfold tabO; rw [rowsN_congr h, pairsN_congr h]
@[simp] theorem mem_rowN {f : Nat → Bool} {b : Nat} : b ∈ rowN n f ↔ b < n ∧ f b = true := by simp [rowN]
@[simp] theorem tmp_tab : (R.ow (tabO n p)).tmp = .fz (tab n p) := (rfl)
@[simp] theorem vw_tab : (tabO n p).vw = some (tab n p) := (rfl)
@[simp] theorem isIns_tab {c : Nat} : (tab n p).isIns c = (0 == c) := (rfl)
@[simp] theorem insOf_tab {c : Nat} {m : Str} : insOf c m (tab n p) = (0 == c && !(["size", "_rows", "_pairs"] : List Str).contains m) := (rfl)
@[simp] theorem fld_tab_size {e : Dl.Env} : fldK 0 "size" (.fz (tab n p), e) = some (.fz (nA n), e) := by simp [tab]
@[simp] theorem fld_tab_rows {e : Dl.Env} : fldK 0 "_rows" (.fz (tab n p), e) = some (.fz (TT (rowsN n p)), e) := by simp [tab]
@[simp] theorem fld_tab_pairs {e : Dl.Env} : fldK 0 "_pairs" (.fz (tab n p), e) = some (.fz (.tup ((pairsN n p).map prA)), e) := by simp [tab]
@[simp] theorem fld_tab_no {c : Nat} {m : Str} {e : Dl.Env} (h : ¬ 0 = c) : fldK c m (.fz (tab n p), e) = none := by simp [tab, h]
@[simp] theorem toR_tab : (tabO n p).toR = .ow (tabO n p) := (rfl)
theorem mk_tab {R : List (List Nat)} (hl : R.length = n) (h : ∀ a, a < n → ∀ b, b < n → p a b = decide (b ∈ R.getD a [])) (h1 : 1 ≤ n) (h6 : n ≤ 6) (hw : ∀ r ∈ R, ∀ w ∈ r, w < n) (hs : ∀ r ∈ R, r.length ≤ 1000000) :
    D_Table___init__ [.ins 0 [] [], fz (LL R)] = some (fz .non, [tabO n p, fz (LL R)]) := by
  rw [init_ok hl h1 h6 hw hs, tabO_congr (p := relL R) (q := p) fun a b ha hb => (h a ha b hb).symm]
/-- .. of rows by a relation -/
theorem mk_rows (h1 : 1 ≤ n) (h6 : n ≤ 6) : D_Table___init__ [.ins 0 [] [], fz (LL (rowsN n p))] = some (fz .non, [tabO n p, fz (LL (rowsN n p))]) := by
  refine mk_tab (by simp [rowsN]) (fun a ha b hb => ?_) h1 h6 (fun r m w mw => ?_) fun r m => ?_
  · simp [rowsN, List.getD, ha, hb]
  · obtain ⟨a, _, rfl⟩ := List.mem_map.mp m
    exact (mem_rowN.mp mw).1
  · obtain ⟨a, _, rfl⟩ := List.mem_map.mp m
    exact Nat.le_trans rowN_len (by omega)
def mulR (n : Nat) (p q : Rel) : Rel := fun a c => (List.range n).any fun b => p a b && q b c
@[simp] theorem nc_out : (["size", "_rows", "_pairs"] : List Str).contains "_out_of_some" = false := by decide +kernel
theorem rowsN_at {a : Nat} (ha : a < n) : (rowsN n p)[a]? = some (rowN n (p a)) := by simp [rowsN, ha]
theorem TT_at {a : Nat} (ha : a < n) : ((rowsN n p).map fun r => A.tup (r.map nA))[a]? = some (.tup ((rowN n (p a)).map nA)) := by rw [List.getElem?_map, rowsN_at ha]; rfl
theorem flat_len {ws : List Nat} (hl : ws.length ≤ 1000) (h6 : n ≤ 6) : (ws.flatMap fun w => (rowN n (p w)).map nA).length ≤ 6000 := by
  have : ∀ l : List Nat, (l.flatMap fun w => (rowN n (p w)).map nA).length ≤ l.length * 6 := by
    intro l
    induction l with
    | nil => simp
    | cons a l ih =>
      rw [List.flatMap_cons, List.length_append, List.length_map, List.length_cons, Nat.add_mul]
      have := rowN_len (n := n) (f := p a)
      omega
  have := this ws
  omega
theorem out_some_ok {t : Bool} {ws : List Nat} (hl : ws.length ≤ 1000) (h6 : n ≤ 6) (hw : ∀ w ∈ ws, w < n) : D_Table__out_of_some [fz (tab n p), fz (itemsA t (ws.map nA))] = some (ow ((rowN n fun c => ws.any fun w => p w c).map nA), [fz (tab n p), fz (itemsA t (ws.map nA))]) := by
  have c : Dc_Table__out_of_some_1 [fz (tab n p), fz (itemsA t (ws.map nA)), .un, .un] = some (.ow (ow ((ws.flatMap fun w => rowN n (p w)).map nA)), [fz (tab n p), fz (itemsA t (ws.map nA)), .un, .un]) := by
    unfold Dc_Table__out_of_some_1
    rw [List.map_flatMap]
    refine gComp2_map 1000000 nA _ (by cases t <;> simp [itemsA]) (by simp [offE]) (fun w m acc ha => ?_) (by have := flat_len (p := p) hl h6; omega)
    have hw := hw w m
    have hin := compG_all (vs := [3]) (h := hName 3) (tt := gYes) (te := gS false (gV 3)) (env := [fz (tab n p), fz (itemsA t (ws.map nA)), fz (nA w), .un]) nA nA (xs := rowN n (p w)) (acc := acc) (fun b mb => by simp [cstep]) (sz (by simpa using ha))
    have e1 := TT_at (p := p) hw
    simp [c2step, hin, e1, rowsN_at hw]
  have asc := ascending_ok (t := false) (ws := ws.flatMap fun w => rowN n (p w)) (n := n) (by omega)
  have e : (rowN n fun w => decide (w ∈ ws.flatMap fun w => rowN n (p w))) = rowN n fun c => ws.any fun w => p w c := rowN_congr fun b hb => by
    rw [Bool.eq_iff_iff]
    simp only [decide_eq_true_eq, List.mem_flatMap, mem_rowN, List.any_eq_true]
    exact ⟨fun ⟨w, m, _, h⟩ => ⟨w, m, h⟩, fun ⟨w, m, h⟩ => ⟨w, m, hb, h⟩⟩
  rw [e] at asc
  simp only [itemsA, Bool.false_eq_true, if_false] at asc
  simp [D_Table__out_of_some, fnD_ev, Db_Table__out_of_some, c, asc]
theorem same_size_ok : D_check_same_size [fz (tab n p), fz (tab n q)] = some (fz .non, [fz (tab n p), fz (tab n q)]) := by
  simp [D_check_same_size, fnD_ev, Db_check_same_size]
theorem mul_ok (h1 : 1 ≤ n) (h6 : n ≤ 6) : D_Table___mul__ [fz (tab n p), fz (tab n q)] = some (fz (tab n (mulR n p q)), [fz (tab n p), fz (tab n q)]) := by
  have c : Dc_Table___mul___1 [fz (tab n p), fz (tab n q), .un] = some (.ow (ow ((rowsN n (mulR n p q)).map nL)), [fz (tab n p), fz (tab n q), .un]) := by
    unfold Dc_Table___mul___1
    have e : (rowsN n (mulR n p q)).map nL = (rowsN n p).map fun r => nL (rowN n fun c => r.any fun w => q w c) := by
      simp only [rowsN, List.map_map]
      refine List.map_congr_left fun a m => ?_
      simp only [Function.comp_apply]
      refine congrArg (fun r => nL r) (rowN_congr fun c hc => ?_)
      rw [Bool.eq_iff_iff]
      simp [mulR]
      exact ⟨fun ⟨b, h1, h2, h3⟩ => ⟨b, ⟨h1, h2⟩, h3⟩, fun ⟨b, ⟨h1, h2⟩, h3⟩ => ⟨b, h1, h2, h3⟩⟩
    rw [e]
    refine gComp_all (fun r => A.tup (r.map nA)) _ (by simp) (by simp [offE]) (fun r m => ?_) (by simpa [rowsN] using sz (n := n) (by omega))
    obtain ⟨a, ha, rfl⟩ := List.mem_map.mp m
    have o := out_some_ok (p := q) (t := true) (ws := rowN n (p a)) (n := n) (Nat.le_trans rowN_len (by omega)) h6 fun w mw => (mem_rowN.mp mw).1
    simp only [itemsA, if_true] at o
    simp [cstep, o]
  have mk := mk_rows (p := mulR n p q) h1 h6
  simp [D_Table___mul__, fnD_ev, Db_Table___mul__, same_size_ok, c, mk]
end
end Fn
namespace Fn
open PySem PySem.Spec L2 Dl Dg
section
variable {n : Nat} {p q : Rel}
@[simp] theorem isO_tab : fIsO [(0, true)] (tab n p) = some (.bl true) := (rfl)
@[simp] theorem eqD_LL {R R' : List (List Nat)} : fEqD (LL R) (LL R') = some (.bl (decide (R = R'))) := dat_nat.lst.lst.eq (by decide) (fun _ _ _ _ => trivial) (fun _ _ _ _ => trivial)
@[simp] theorem neD_LL {R R' : List (List Nat)} : fNeD (LL R) (LL R') = some (.bl (!decide (R = R'))) := dat_nat.lst.lst.ne (by decide) (fun _ _ _ _ => trivial) (fun _ _ _ _ => trivial)
/-- the same rows: the same table -/
theorem rowsN_inj : rowsN n p = rowsN n q ↔ ∀ a b, a < n → b < n → p a b = q a b := by
  refine ⟨fun h a b ha hb => ?_, rowsN_congr⟩
  have h1 := congrArg (fun R => R[a]?) h
  simp only [rowsN_at ha, Option.some.injEq] at h1
  have h2 := congrArg (fun l => decide (b ∈ l)) h1
  simp only [mem_rowN] at h2
  rw [decide_eq_decide] at h2
  rw [Bool.eq_iff_iff]
  exact ⟨fun z => (h2.mp ⟨hb, z⟩).2, fun z => (h2.mpr ⟨hb, z⟩).2⟩
def idR : Rel := fun a b => decide (a = b)
theorem rows_idR : rowsN n idR = saysId n := by
  refine List.map_congr_left fun w m => ?_
  have hw : w < n := by simpa using m
  rw [rowN, ← filter_one hw]
  refine List.filter_congr fun b _ => ?_
  simp [idR, eq_comm]
theorem identity_ok (h1 : 1 ≤ n) (h6 : n ≤ 6) : D_Table_identity [fz (.kls 0), fz (nA n)] = some (fz (tab n idR), [fz (.kls 0), fz (nA n)]) := by
  have sm : Sm n := .of (by omega)
  have l1 : (1 : Nat) ≤ sizeLine := sz (by decide)
  have c : Dc_Table_identity_1 [fz (.kls 0), fz (nA n), .un] = some (.ow (ow ((rowsN n idR).map nL)), [fz (.kls 0), fz (nA n), .un]) := by
    unfold Dc_Table_identity_1
    rw [rows_idR, saysId, List.map_map]
    exact gComp_all nA _ (by simp [sm]) (by simp [offE]) (fun w m => by simp [cstep, l1]) (by simpa using sm.le)
  have mk := mk_rows (p := idR) h1 h6
  simp [D_Table_identity, fnD_ev, Db_Table_identity, check_size_ok h1 h6, c, mk]
end
/-! ## casts as values -/
abbrev cK (c : Nat) : Key := .inr ⟨#[c]⟩
def castA (n : Nat) (ks : List Nat) (T : Nat → Rel) : A := .ins 1 ["size", "_tables"] [nA n, .dK (ks.map cK) (ks.map fun c => tab n (T c))]
def castO (n : Nat) (ks : List Nat) (T : Nat → Rel) : O := .ins 1 ["size", "_tables"] [.fz (nA n), .dK (ks.map cK) (ks.map fun c => tab n (T c))]
theorem valA_map {f : Nat → A} {c : Nat} : ∀ {ks : List Nat}, valA (ks.map cK) (ks.map f) (cK c) = if c ∈ ks then some (f c) else none
  | [] => rfl
  | k :: ks => by
    show (if cK k = cK c then some (f k) else valA (ks.map cK) (ks.map f) (cK c)) = _
    rw [valA_map]
    by_cases h : k = c
    · subst h; simp
    · have : ¬ c = k := fun z => h z.symm
      simp [h, this]
section
variable {n : Nat} {ks : List Nat} {T : Nat → Rel} {f : Nat → A} {c : Nat}
@[simp] theorem fDIn_c : fDIn (cA c) (.dK (ks.map cK) (ks.map f)) = some (.bl (decide (c ∈ ks))) := by
  show (some (valA (ks.map cK) (ks.map f) (cK c))).map _ = _
  rw [valA_map]
  by_cases h : c ∈ ks <;> simp [h]
@[simp] theorem fDNotIn_c : fDNotIn (cA c) (.dK (ks.map cK) (ks.map f)) = some (.bl (!decide (c ∈ ks))) := by
  show (some (valA (ks.map cK) (ks.map f) (cK c))).map _ = _
  rw [valA_map]
  by_cases h : c ∈ ks <;> simp [h]
theorem fGet_c (h : c ∈ ks) : fGet (.dK (ks.map cK) (ks.map f)) (cA c) = some (f c) := by
  show (some (valA (ks.map cK) (ks.map f) (cK c))).bind id = _
  rw [valA_map, if_pos h]; rfl
@[simp] theorem isIns_cast {d : Nat} : (castA n ks T).isIns d = (1 == d) := (rfl)
@[simp] theorem insOf_cast {d : Nat} {m : Str} : insOf d m (castA n ks T) = (1 == d && !(["size", "_tables"] : List Str).contains m) := (rfl)
@[simp] theorem fld_cast_size {e : Dl.Env} : fldK 1 "size" (.fz (castA n ks T), e) = some (.fz (nA n), e) := by simp [castA]
@[simp] theorem fld_cast_tabs {e : Dl.Env} : fldK 1 "_tables" (.fz (castA n ks T), e) = some (.fz (.dK (ks.map cK) (ks.map fun c => tab n (T c))), e) := by simp [castA]
@[simp] theorem fld_cast_no {d : Nat} {m : Str} {e : Dl.Env} (h : ¬ 1 = d) : fldK d m (.fz (castA n ks T), e) = none := by simp [castA, h]
@[simp] theorem tmp_cast : (R.ow (castO n ks T)).tmp = .fz (castA n ks T) := (rfl)
@[simp] theorem vw_cast : (castO n ks T).vw = some (castA n ks T) := (rfl)
@[simp] theorem toR_cast : (castO n ks T).toR = .ow (castO n ks T) := (rfl)
@[simp] theorem strA_S {l : List Nat} : strA ⟨l.toArray⟩ = l.map cA := by simp [strA]
def thrR (n : Nat) (T : Nat → Rel) (row : List Nat) : Rel := (row.map T).foldl (mulR n) idR
/-- the letters in order -/
def sl (ks : List Nat) : List Nat := az.filter fun c => decide (c ∈ ks)
end
end Fn
namespace Fn
open PySem PySem.Spec L2 Dl Dg
/-! ## people as values -/
abbrev FN3 : List Str := ["size", "_hears", "_says"]
abbrev FN4 : List Str := ["size", "_hears", "_says", "_known"]
def pA (c n : Nat) (h : List Nat) (s : List (List Nat)) : A := .ins c FN3 [nA n, nL h, LL s]
def pO (c n : Nat) (h : List Nat) (s : List (List Nat)) : O := .ins c FN3 [.fz (nA n), .lst (h.map nA), .lst (s.map nL)]
def kA (c n : Nat) (h : List Nat) (s : List (List Nat)) (k : List Nat) : A := .ins c FN4 [nA n, nL h, LL s, nL k]
def kO (c n : Nat) (h : List Nat) (s : List (List Nat)) (k : List Nat) : O := .ins c FN4 [.fz (nA n), .lst (h.map nA), .lst (s.map nL), .lst (k.map nA)]
section
variable {c d n w : Nat} {h k : List Nat} {s : List (List Nat)} {e : Dl.Env} {m : Str}
@[simp] theorem isIns_pA : (pA c n h s).isIns d = (c == d) := (rfl)
@[simp] theorem insOf_pA : insOf d m (pA c n h s) = (c == d && !(FN3).contains m) := (rfl)
@[simp] theorem tmp_pA : (R.ow (pO c n h s)).tmp = .fz (pA c n h s) := (rfl)
@[simp] theorem vw_pA : (pO c n h s).vw = some (pA c n h s) := (rfl)
@[simp] theorem toR_pA : (pO c n h s).toR = .ow (pO c n h s) := (rfl)
@[simp] theorem fld_pA_no (z : ¬ c = d) : fldK d m (.fz (pA c n h s), e) = none := by simp [pA, z]
@[simp] theorem fld_pAsize : fldK c "size" (.fz (pA c n h s), e) = some (.fz (nA n), e) := by simp [pA]
@[simp] theorem fld_pA_hears : fldK c "_hears" (.fz (pA c n h s), e) = some (.fz (nL h), e) := by simp [pA]
@[simp] theorem fld_pA_says : fldK c "_says" (.fz (pA c n h s), e) = some (.fz (LL s), e) := by simp [pA]
@[simp] theorem isIns_kA : (kA c n h s k).isIns d = (c == d) := (rfl)
@[simp] theorem insOf_kA : insOf d m (kA c n h s k) = (c == d && !(FN4).contains m) := (rfl)
@[simp] theorem tmp_kA : (R.ow (kO c n h s k)).tmp = .fz (kA c n h s k) := (rfl)
@[simp] theorem vw_kA : (kO c n h s k).vw = some (kA c n h s k) := (rfl)
@[simp] theorem toR_kA : (kO c n h s k).toR = .ow (kO c n h s k) := (rfl)
@[simp] theorem fld_kA_no (z : ¬ c = d) : fldK d m (.fz (kA c n h s k), e) = none := by simp [kA, z]
@[simp] theorem fld_kAsize : fldK c "size" (.fz (kA c n h s k), e) = some (.fz (nA n), e) := by simp [kA]
@[simp] theorem fld_kA_hears : fldK c "_hears" (.fz (kA c n h s k), e) = some (.fz (nL h), e) := by simp [kA]
@[simp] theorem fld_kA_says : fldK c "_says" (.fz (kA c n h s k), e) = some (.fz (LL s), e) := by simp [kA]
@[simp] theorem fld_kA_known : fldK c "_known" (.fz (kA c n h s k), e) = some (.fz (nL k), e) := by simp [kA]
end
end Fn
namespace Fn
open PySem PySem.Spec L2 Dl Dg
def can (n : Nat) (r : List Nat) : List Nat := rowN n fun w => decide (w ∈ r)
structure Raw (n : Nat) (h : List Nat) (s : List (List Nat)) : Prop where
  lh : h.length = n
  hh : ∀ w ∈ h, w < n
  ls : s.length = n
  hs : ∀ r ∈ s, r ≠ [] ∧ r.length ≤ 64 ∧ ∀ w ∈ r, w < n
theorem Per.raw {n : Nat} {h : List Nat} {s : List (List Nat)} (P : Per n h s) : Raw n h s := ⟨P.lh, P.hh, P.ls, P.hs⟩
section
variable {n : Nat} {h k : List Nat} {s : List (List Nat)}
end
end Fn
namespace Fn
open PySem PySem.Spec L2 Dl Dg
/-! ## the law's makers of people -/
section
variable {n : Nat} {q : Rel} {h : List Nat} {s : List (List Nat)}
theorem map_id {s : List (List Nat)} (ls : s.length = n) : s.map nL = (List.range n).map fun w => nL (s.getD w []) := by
  subst ls
  refine List.ext_getElem (by simp) fun j h1 h2 => ?_
  have : j < s.length := by simpa using h1
  simp [List.getD, this]
variable {k : Nat}
end
end Fn
namespace Fn
open PySem PySem.Spec L2 Dl Dg
section
variable {n k : Nat} {q : Rel} {h : List Nat} {s : List (List Nat)}
@[simp] theorem fEqD_one {xs : List Nat} {w : Nat} : fEqD (.lst (xs.map nA)) (.lst [.int (w : Int)]) = some (.bl (decide (xs = [w]))) := fEqD_nats (ys := [w])
end
end Fn
namespace Fn
open PySem PySem.Spec L2 Dl Dg
theorem lt1 {a b : Nat} : ([a] < [b]) ↔ a < b := by
  constructor
  · intro z
    cases z with
    | rel h => exact h
    | cons h => cases h
  · exact fun h => List.Lex.rel h
theorem le1 {a b : Nat} : ([a] ≤ [b]) ↔ a ≤ b := by
  rw [← List.not_lt, lt1]; omega
section
variable {n c : Nat} {ks : List Nat} {T : Nat → Rel} {P : A}
end
end Fn
namespace Fn
open PySem PySem.Spec L2 Dl Dg
/-! ## the law's own tables -/
section
variable {n : Nat} {folk : List Ent}
abbrev ownA (n : Nat) (T : Nat → Rel) (ks : List Nat) : A := .dK (ks.map cK) (ks.map fun c => LL (rowsN n (T c)))
end
/-! ## the law's product -/
section
variable {n : Nat} {p q : Rel}
theorem j1_ok {s2 : O} {row outs : List Nat} {m : Nat} (hm : m < n) (h6 : n ≤ 6) : Dc__law_join_1 [fz (LL (rowsN n p)), fz (LL (rowsN n q)), s2, fz (nL row), fz (nL outs), fz (nA m), .un, .un] =
    some (.ow (ow (((rowN n (q m)).filter fun o => decide (o ∉ outs)).map nA)), [fz (LL (rowsN n p)), fz (LL (rowsN n q)), s2, fz (nL row), fz (nL outs), fz (nA m), .un, .un]) := by
  unfold Dc__law_join_1
  have e := rowsN_at (p := q) hm
  refine gComp_map nA _ nA (by simp [e]) (by simp [offE]) (fun o mo => ?_) (sz (Nat.le_trans rowN_len (by omega)))
  by_cases c : o ∈ outs <;> simp [cstep, c]
theorem jl_ok {s2 : O} {row : List Nat} (h6 : n ≤ 6) : ∀ {ms outs : List Nat} {s5 : O}, (∀ m ∈ ms, m < n) → outs.length + 6 * ms.length ≤ 1000 → ∃ outs' s5', (∀ o, o ∈ outs' ↔ o ∈ outs ∨ ∃ m ∈ ms, o < n ∧ q m o = true) ∧
    loopG (hName 5) Dl__law_join_1 (ms.map nA) [fz (LL (rowsN n p)), fz (LL (rowsN n q)), s2, fz (nL row), fz (nL outs), s5, .un, .un] = some (.nx, [fz (LL (rowsN n p)), fz (LL (rowsN n q)), s2, fz (nL row), fz (nL outs'), s5', .un, .un])
  | [], outs, s5, _, _ => ⟨outs, s5, by simp, rfl⟩
  | m :: ms, outs, s5, hm, hl => by
    rw [List.length_cons] at hl
    have j1 := j1_ok (p := p) (q := q) (s2 := s2) (row := row) (outs := outs) (hm m List.mem_cons_self) h6
    have lf : ((rowN n (q m)).filter fun o => decide (o ∉ outs)).length ≤ 6 := Nat.le_trans (List.length_filter_le _ _) (Nat.le_trans rowN_len h6)
    obtain ⟨outs', s5', ho, e⟩ := jl_ok (s2 := s2) (row := row) h6 (ms := ms) (outs := outs ++ (rowN n (q m)).filter fun o => decide (o ∉ outs)) (s5 := fz (nA m)) (fun x mx => hm x (List.mem_cons_of_mem _ mx)) (by rw [List.length_append]; omega)
    refine ⟨outs', s5', fun o => ?_, ?_⟩
    · rw [ho o]
      simp only [List.mem_append, List.mem_filter, mem_rowN, decide_eq_true_eq, List.mem_cons, exists_eq_or_imp]
      by_cases c : o ∈ outs
      · simp [c]
      · simp [c]
    · have l1 : outs.length + ((rowN n (q m)).filter fun o => decide (o ∉ outs)).length ≤ sizeLine := sz (by omega)
      generalize ((rowN n (q m)).filter fun o => decide (o ∉ outs)) = new at j1 e l1
      have st : Dl__law_join_1 [fz (LL (rowsN n p)), fz (LL (rowsN n q)), s2, fz (nL row), fz (nL outs), fz (nA m), .un, .un] = some (.nx, [fz (LL (rowsN n p)), fz (LL (rowsN n q)), s2, fz (nL row), fz (nL (outs ++ new)), fz (nA m), .un, .un]) := by
        simp [Dl__law_join_1, j1, l1]
      rw [List.map_cons]
      show (Option.bind (some [fz (LL (rowsN n p)), fz (LL (rowsN n q)), s2, fz (nL row), fz (nL outs), fz (nA m), .un, .un]) _) = _
      rw [Option.bind_some, st]
      exact e
theorem join_ok (h6 : n ≤ 6) : D__law_join [fz (LL (rowsN n p)), fz (LL (rowsN n q))] = some (ow ((rowsN n (mulR n p q)).map nL), [fz (LL (rowsN n p)), fz (LL (rowsN n q))]) := by
  have sm : Sm n := .of (by omega)
  have ln : (rowsN n q).length = n := by simp [rowsN]
  have lnp : (rowsN n p).length = n := by simp [rowsN]
  obtain ⟨e', lp, s3, s4, s5, rfl⟩ := loopG_ix (h := hName 3) (b := Dl__law_join_2) (env := [fz (LL (rowsN n p)), fz (LL (rowsN n q)), ow [], .un, .un, .un, .un, .un]) nL (rowsN n p)
    (fun i env => ∃ s3 s4 s5, env = [fz (LL (rowsN n p)), fz (LL (rowsN n q)), ow (((rowsN n (mulR n p q)).take i).map nL), s3, s4, s5, .un, .un])
    (by
      rintro i env hi ⟨s3, s4, s5, rfl⟩
      have hn : i < n := by omega
      have er : (rowsN n p)[i] = rowN n (p i) := by
        have := rowsN_at (p := p) hn
        rw [List.getElem?_eq_getElem hi] at this
        exact Option.some.inj this
      have et : (rowsN n (mulR n p q)).take (i + 1) = (rowsN n (mulR n p q)).take i ++ [rowN n (mulR n p q i)] := by
        rw [List.take_add_one, rowsN_at hn]; rfl
      have l4 : ((rowsN n (mulR n p q)).take i).length < sizeLine := szl (by rw [List.length_take]; omega)
      rw [et, er]
      generalize (rowsN n (mulR n p q)).take i = acc at l4 ⊢
      obtain ⟨outs, s5', ho, jl⟩ := jl_ok (p := p) (q := q) (s2 := ow (acc.map nL)) (row := rowN n (p i)) h6 (ms := rowN n (p i)) (outs := []) (s5 := s5) (fun m mm => (mem_rowN.mp mm).1) (by have := rowN_len (n := n) (f := p i); simp; omega)
      have j2 : ∀ M : List A, Dc__law_join_2 [fz (LL (rowsN n p)), fz (LL (rowsN n q)), ow M, fz (nL (rowN n (p i))), fz (nL outs), s5', .un, .un] = some (.ow (ow ((rowN n (mulR n p q i)).map nA)), [fz (LL (rowsN n p)), fz (LL (rowsN n q)), ow M, fz (nL (rowN n (p i))), fz (nL outs), s5', .un, .un]) := fun M => by
        unfold Dc__law_join_2
        have e : (rowN n (mulR n p q i)) = (List.range n).filter fun w => decide (w ∈ outs) := by
          refine rowN_congr fun b hb => ?_
          rw [Bool.eq_iff_iff]
          simp [mulR, ho, hb]
          exact ⟨fun ⟨x, h1, h2, h3⟩ => ⟨x, ⟨h1, h2⟩, h3⟩, fun ⟨x, ⟨h1, h2⟩, h3⟩ => ⟨x, h1, h2, h3⟩⟩
        rw [e]
        refine gComp_map nA _ nA (by simp [ln, sm]) (by simp [offE]) (fun w m => ?_) (by simpa using sm.le)
        by_cases c : w ∈ outs <;> simp [cstep, c]
      refine ⟨_, [fz (LL (rowsN n p)), fz (LL (rowsN n q)), ow ((acc ++ [rowN n (mulR n p q i)]).map nL), fz (nL (rowN n (p i))), fz (nL outs), s5', .un, .un], rfl, ?_, _, _, _, rfl⟩
      rw [show nL [] = A.lst [] from rfl] at jl
      simp [Dl__law_join_2, jl, j2, l4])
    ⟨_, _, _, rfl⟩
  rw [List.take_of_length_le (by simp [rowsN])] at lp
  simp [D__law_join, fnD_ev, Db__law_join, lp]
end
/-! ## the box -/
end Fn
namespace Fn
open PySem PySem.Spec L2 Dl Dg
/-! ## patterns: the stars ahead -/
def runS (p : List Nat) (i : Nat) : Nat := ((p.drop i).takeWhile fun c => decide (c = 42)).length
theorem runS_zero {p : List Nat} {i : Nat} (h : p[i]? ≠ some 42) : runS p i = 0 := by
  unfold runS
  cases e : p.drop i with
  | nil => rfl
  | cons a r =>
    have : p[i]? = some a := by rw [← List.head?_drop, e]; rfl
    rw [this] at h
    rw [List.takeWhile_cons_of_neg (by simpa using h)]
    rfl
theorem runS_succ {p : List Nat} {i : Nat} (h : p[i]? = some 42) : runS p i = runS p (i + 1) + 1 := by
  unfold runS
  have hi : i < p.length := (List.getElem?_eq_some_iff.mp h).1
  have e : p[i] = 42 := (List.getElem?_eq_some_iff.mp h).2
  rw [List.drop_eq_getElem_cons hi, e, List.takeWhile_cons_of_pos (by decide)]
  rfl
theorem runS_le {p : List Nat} {i : Nat} : runS p i ≤ p.length - i := by
  unfold runS
  have h : ∀ l : List Nat, (l.takeWhile fun c => decide (c = 42)).length ≤ l.length := fun l => (List.takeWhile_sublist _).length_le
  have := h (p.drop i)
  rw [List.length_drop] at this
  exact this
/-- where a place of the pattern leads by a letter -/
def after (p : List Nat) (i c : Nat) : Option Nat := match p[i]? with
  | none => none
  | some s => if s = 42 then some i else if s = c ∨ s = 63 then some (i + 1) else none
end Fn
namespace Fn
open PySem PySem.Spec L2 Dl Dg
/-! ## the places behind a letter -/
def starL (p : List Nat) (j : Nat) : List Nat := (List.range (runS p j + 1)).map fun t => j + t
def addP (p : List Nat) (c : Nat) (found : List Nat) (i : Nat) : List Nat := match after p i c with
  | none => found
  | some j => if j ∈ found then found else found ++ starL p j
theorem after_le {p : List Nat} {i c j : Nat} (h : after p i c = some j) : j ≤ p.length := by
  unfold after at h
  cases e : p[i]? with
  | none => rw [e] at h; cases h
  | some s =>
    have hi := (List.getElem?_eq_some_iff.mp e).1
    rw [e] at h
    simp only at h
    split at h
    · cases h; omega
    · split at h
      · cases h; omega
      · cases h
theorem starL_self {p : List Nat} {j : Nat} : j ∈ starL p j := by
  unfold starL
  exact List.mem_map.mpr ⟨0, List.mem_range.mpr (by omega), by simp⟩
def GoodP (p : List Nat) (found : List Nat) : Prop := ∃ js : List Nat, js.Nodup ∧ (∀ j ∈ js, j ≤ p.length) ∧ found = js.flatMap (starL p)
theorem GoodP.add {p : List Nat} {c i : Nat} {found : List Nat} (h : GoodP p found) : GoodP p (addP p c found i) := by
  obtain ⟨js, nd, le, rfl⟩ := h
  unfold addP
  cases e : after p i c with
  | none => exact ⟨js, nd, le, rfl⟩
  | some j =>
    simp only
    split
    · exact ⟨js, nd, le, rfl⟩
    · rename_i hj
      have nj : j ∉ js := fun m => hj (List.mem_flatMap.mpr ⟨j, m, starL_self⟩)
      refine ⟨js ++ [j], ?_, fun x m => ?_, by simp⟩
      · rw [List.nodup_append]
        refine ⟨nd, by simp, fun a ha b hb => ?_⟩
        rw [List.mem_singleton] at hb
        subst hb
        exact fun z => nj (z ▸ ha)
      · rcases List.mem_append.mp m with m | m
        · exact le x m
        · rw [List.mem_singleton.mp m]; exact after_le e
theorem nodup_lt : ∀ {n : Nat} {l : List Nat}, l.Nodup → (∀ x ∈ l, x < n) → l.length ≤ n
  | 0, [], _, _ => Nat.le_refl _
  | 0, a :: l, _, h => absurd (h a List.mem_cons_self) (by omega)
  | n + 1, l, nd, h => by
    by_cases m : n ∈ l
    · have e := List.length_erase_of_mem m
      have := nodup_lt (n := n) (nd.erase n) fun x hx => by
        have h1 := h x (List.mem_of_mem_erase hx)
        have h2 : x ≠ n := fun z => by
          subst z
          exact (List.Nodup.mem_erase_iff nd).mp hx |>.1 rfl
        omega
      omega
    · have := nodup_lt (n := n) nd fun x hx => by
        have h1 := h x hx
        have h2 : x ≠ n := fun z => m (z ▸ hx)
        omega
      omega
theorem nodup_le {n : Nat} {l : List Nat} (nd : l.Nodup) (h : ∀ x ∈ l, x ≤ n) : l.length ≤ n + 1 := nodup_lt nd fun x m => by have := h x m; omega
theorem GoodP.len {p found : List Nat} (h : GoodP p found) : found.length ≤ (p.length + 1) * (p.length + 1) := by
  obtain ⟨js, nd, le, rfl⟩ := h
  have h1 := nodup_le nd le
  have h2 : ∀ l : List Nat, (l.flatMap (starL p)).length ≤ l.length * (p.length + 1) := fun l => by
    induction l with
    | nil => simp
    | cons a r ih =>
      rw [List.flatMap_cons, List.length_append, List.length_cons, Nat.add_mul]
      have : (starL p a).length ≤ p.length + 1 := by
        unfold starL
        have := runS_le (p := p) (i := a)
        simp; omega
      omega
  exact Nat.le_trans (h2 js) (Nat.mul_le_mul_right _ h1)
end Fn
namespace Fn
open PySem PySem.Spec L2 Dl Dg
/-! ## what a pattern matches -/
/-- the first k signs of p match the letters r -/
inductive Rch (p : List Nat) : Nat → List Nat → Prop where
  | start : Rch p 0 []
  | skip {k : Nat} {r : List Nat} : Rch p k r → p[k]? = some 42 → Rch p (k + 1) r
  | eat {k : Nat} {r : List Nat} {c : Nat} : Rch p k r → p[k]? = some 42 → Rch p k (r ++ [c])
  | one {k s c : Nat} {r : List Nat} : Rch p k r → p[k]? = some s → s ≠ 42 → (s = c ∨ s = 63) → Rch p (k + 1) (r ++ [c])
theorem starL_stars {p : List Nat} {j t : Nat} (h : t < runS p j) : p[j + t]? = some 42 := by
  induction t generalizing j with
  | zero =>
    refine Classical.byContradiction fun z => ?_
    rw [runS_zero (by simpa using z)] at h; omega
  | succ t ih =>
    have hj : p[j]? = some 42 := by
      refine Classical.byContradiction fun z => ?_
      rw [runS_zero z] at h; omega
    rw [runS_succ hj] at h
    have := ih (j := j + 1) (by omega)
    rwa [show j + 1 + t = j + (t + 1) by omega] at this
theorem Rch.run {p r : List Nat} {j : Nat} (h : Rch p j r) : ∀ {t : Nat}, t ≤ runS p j → Rch p (j + t) r
  | 0, _ => h
  | t + 1, ht => (Rch.run h (t := t) (by omega)).skip (starL_stars (by omega))
end Fn
namespace Fn
open PySem PySem.Spec L2 Dl Dg
/-! ## the law's ends -/
/-- the first k signs match the letters r, no letter more -/
inductive Mx (p : List Nat) : Nat → List Nat → Prop where
  | start : Mx p 0 []
  | star {k : Nat} {r : List Nat} (l : List Nat) : Mx p k r → p[k]? = some 42 → Mx p (k + 1) (r ++ l)
  | one {k s c : Nat} {r : List Nat} : Mx p k r → p[k]? = some s → s ≠ 42 → (s = c ∨ s = 63) → Mx p (k + 1) (r ++ [c])
theorem Rch.mx {p r : List Nat} {k : Nat} (h : Rch p k r) : Mx p k r ∨ (p[k]? = some 42 ∧ ∃ r0 l, r = r0 ++ l ∧ Mx p k r0) := by
  induction h with
  | start => exact .inl .start
  | @skip k r h s ih =>
    rcases ih with m | ⟨_, r0, l, e, m⟩
    · have := m.star [] s
      exact .inl (by simpa using this)
    · rw [e]; exact .inl (m.star l s)
  | @eat k r c h s ih =>
    rcases ih with m | ⟨_, r0, l, e, m⟩
    · exact .inr ⟨s, r, [c], rfl, m⟩
    · exact .inr ⟨s, r0, l ++ [c], by rw [e]; simp, m⟩
  | @one k s c r h e n o ih =>
    rcases ih with h | ⟨z, _⟩
    · exact .inl (h.one e n o)
    · rw [e] at z; cases z; exact absurd rfl n
end Fn
namespace Fn
open PySem PySem.Spec L2 Dl Dg
/-! ## the law's own match -/
theorem s63 : ("?" : Str) = S [63] := by decide +kernel
theorem s42 : ("*" : Str) = S [42] := by decide +kernel
end Fn
namespace Fn
open PySem PySem.Spec L2 Dl Dg
/-! ## errors, evaluated -/
section
variable {env : Dl.Env}
@[simp] theorem gOr_ev {g : GS} {b : GB} : gOr g b env = match g env with
  | some p => some p
  | none => (b env).om fun p => (.er p.1, p.2) := by
  unfold gOr
  cases g env with
  | some p => rfl
  | none => cases b env <;> rfl
@[simp] theorem callB_ev {b : BF} {rs : List R} : callB b rs env = if (plIdx rs).Nodup then (argOs env rs).ob fun os => (b os).om fun p => (p.1, backO env rs p.2) else none := (rfl)
@[simp] theorem bCall_ev {b : BF} {ds : List A} {g : Dl.Env → Option (List R × Dl.Env)} : bCall b ds g env = (g env).ob fun p => callB b (p.1 ++ ds.map .fz) p.2 := (rfl)
@[simp] theorem fzs_nil : fzs [] = some [] := (rfl)
@[simp] theorem fzs_fz {a : A} {rs : List R} : fzs (.fz a :: rs) = (fzs rs).om fun xs => a :: xs := (rfl)
@[simp] theorem gRaise_ev {c : Nat} {g : Dl.Env → Option (List R × Dl.Env)} : gRaise c g env = (g env).ob fun p => (fzs p.1).ob fun xs => cIf (xs.length = (eF c).length ∧ ∀ a ∈ xs, PrA a) (some (.er ⟨c, xs⟩, p.2)) none := by
  unfold gRaise Option.ob
  congr 1; funext p; congr 1; funext xs
  exact ite_cl
@[simp] theorem PrA_int {i : Int} : PrA (.int i) = (i.natAbs.log2 < 1920) := (rfl)
@[simp] theorem PrA_str {s : Str} : PrA (.str s) = (s.length ≤ 1921) := (rfl)
def erK (ra : List Nat) (os : List O) : Fo × Dl.Env → Option (Ev × List O)
  | (.er e, en) => some (e, finO ra 0 os en)
  | _ => none
@[simp] theorem erK_er {ra : List Nat} {os : List O} {e : Ev} {en : Dl.Env} : erK ra os (.er e, en) = some (e, finO ra 0 os en) := (rfl)
theorem fnB_ev {ra : List Nat} {n m : Nat} {body : GS} {os : List O} : fnB ra n m body os = if os.length = n ∧ okRa ra os = true then (body (os ++ List.replicate m .un)).ob (erK ra os) else none := by
  unfold fnB Option.ob
  congr 1; congr 1; funext ⟨f, e⟩
  cases f <;> rfl
def tzK (ra : List Nat) (os : List O) : Fo × Dl.Env → Option (O × List O)
  | (.rt o, en) => some (o, finO ra 0 os en)
  | _ => none
@[simp] theorem tzK_rt {ra : List Nat} {os : List O} {o : O} {e : Dl.Env} : tzK ra os (.rt o, e) = some (o, finO ra 0 os e) := (rfl)
def tnK (ra : List Nat) (gt : GS) (tab : Nat → Option (List A → List A)) (os : List O) : Fo × Dl.Env → Option (O × List O)
  | (.nx, en) => (gt en).ob (tzK ra os)
  | (.rt o, en) => some (o, finO ra 0 os en)
  | (.er e, en) => (tab e.c).om fun f => (.fl (.lst (f e.xs)), finO ra 0 os en)
  | _ => none
@[simp] theorem tnK_nx {ra : List Nat} {gt : GS} {tab : Nat → Option (List A → List A)} {os : List O} {e : Dl.Env} : tnK ra gt tab os (.nx, e) = (gt e).ob (tzK ra os) := (rfl)
@[simp] theorem tnK_rt {ra : List Nat} {gt : GS} {tab : Nat → Option (List A → List A)} {os : List O} {o : O} {e : Dl.Env} : tnK ra gt tab os (.rt o, e) = some (o, finO ra 0 os e) := (rfl)
@[simp] theorem tnK_er {ra : List Nat} {gt : GS} {tab : Nat → Option (List A → List A)} {os : List O} {x : Ev} {e : Dl.Env} : tnK ra gt tab os (.er x, e) = (tab x.c).om fun f => (.fl (.lst (f x.xs)), finO ra 0 os e) := (rfl)
theorem fnT_ev {ra : List Nat} {n m : Nat} {g gt : GS} {tab : Nat → Option (List A → List A)} {os : List O} : fnT ra n m g gt tab os = if os.length = n ∧ okRa ra os = true then (g (os ++ List.replicate m .un)).ob (tnK ra gt tab os) else none := by
  unfold fnT Option.ob
  congr 1; congr 1; funext ⟨f, e⟩
  cases f with
  | nx =>
    show (gt e).bind _ = (gt e).bind _
    congr 1; funext ⟨f, e⟩
    cases f <;> rfl
  | _ => rfl
end
section
variable {ι : Type} {h : A → Dl.Env → Option Dl.Env} {b : GS}
theorem loopG_cons {x : A} {xs : List A} {env e1 : Dl.Env} (h1 : h x env = some e1) : loopG h b (x :: xs) env = (b e1).ob fun p => match p.1 with
      | .nx => loopG h b xs p.2
      | .ct => loopG h b xs p.2
      | .bk => some (.nx, p.2)
      | .rt o => some (.rt o, p.2)
      | .er x => some (.er x, p.2) := by
  show ((h x env).bind fun e1 => (b e1).bind fun p => match p.1 with
      | .nx => loopG h b xs p.2
      | .ct => loopG h b xs p.2
      | .bk => some (.nx, p.2)
      | .rt o => some (.rt o, p.2)
      | .er x => some (.er x, p.2)) = _
  rw [h1, Option.bind_some]; rfl
end
end Fn
namespace Fn
open PySem PySem.Spec L2 Dl Dg
section
variable {n c : Nat} {ks : List Nat} {T : Nat → Rel}
/-! ## matches -/
theorem eqV_S {a b : List Nat} : eqV (V.str (S a)) (V.str (S b)) = decide (a = b) := by
  show (S a == S b) = _
  by_cases h : a = b
  · subst h; rw [decide_eq_true rfl]; exact beq_self_eq_true _
  · rw [decide_eq_false h]; exact beq_eq_false_iff_ne.mpr fun z => h (S_inj.mp z)
/-! a stranger -/
theorem log_small {i : Nat} (h : i ≤ 1000000) : i.log2 < 1920 := by
  by_cases z : i = 0
  · subst z; decide +kernel
  · have := (Nat.log2_lt z (k := 20)).mpr (by omega)
    omega
end
end Fn
namespace Fn
open PySem PySem.Spec L2 Dl Dg
/-! ## the law's people, patterns, rows -/
@[simp] theorem gLsD_ev {g : G} {env : Dl.Env} : gLsD g env = (gOne g env).ob fun p => p.1.keysD.om fun xs => (.ow (ow xs), p.2) := (rfl)
@[simp] theorem fIsB_bl {a b : Bool} : fIsB (.bl a) (.bl b) = some (.bl (decide (a = b))) := (rfl)
@[simp] theorem fNotB_bl {a b : Bool} : fNotB (.bl a) (.bl b) = some (.bl (!decide (a = b))) := (rfl)
theorem ex_seq {g h : GS} {env e1 : Dl.Env} {x : Fo} (h1 : g env = some (.nx, e1)) (h2 : ∃ e', h e1 = some (x, e')) : ∃ e', gSeq g h env = some (x, e') := by
  rw [gSeq_ev, h1, ob_some, seqK_nx]; exact h2
theorem keys_cc {ls : List Nat} : (ls.map cK).map keyT = ls.map cA := by rw [List.map_map]; rfl
theorem kc_eq : keyT ∘ cK = cA := rfl
section
variable {n : Nat} {ls : List Nat} {T : Nat → Rel}
end
end Fn
namespace Fn
open PySem PySem.Spec L2 Dl Dg
section
variable {n : Nat} {ks : List Nat} {T : Nat → Rel}
/-! the law's checks -/
@[simp] theorem isI_list {xs : List A} : fIsI "list" (.lst xs) = some (.bl true) := by
  simp only [fIsI, A.tyn, Option.bind_some, show kitB "list" "list" = some true by decide +kernel, Option.map_some]
@[simp] theorem isI_tuple {xs : List A} : fIsI "tuple" (.tup xs) = some (.bl true) := by
  simp only [fIsI, A.tyn, Option.bind_some, show kitB "tuple" "tuple" = some true by decide +kernel, Option.map_some]
@[simp] theorem isI_str {x : Str} : fIsI "str" (.str x) = some (.bl true) := by
  simp only [fIsI, A.tyn, Option.bind_some, show kitB "str" "str" = some true by decide +kernel, Option.map_some]
@[simp] theorem isI_int_str {x : Str} : fIsI "int" (.str x) = some (.bl false) := by
  simp only [fIsI, A.tyn, Option.bind_some, show kitB "str" "int" = some false by decide +kernel, Option.map_some]
end
theorem start_box {cs : List Int} (pos : ∀ c ∈ cs, 0 ≤ c) : ∃ b : Box, b.ok ∧ O.fl (.lst [.lst (cs.map A.int), .int 0, .int 0, .int 0]) = bx b := ⟨⟨cs, 0, 0, 0⟩, ⟨Int.le_refl 0, (by decide : (0 : Int) < 2147483647), Int.le_refl 0, pos⟩, rfl⟩
end Fn
namespace Fn
open PySem PySem.Spec L2 Dl Dg
/-! ## lent arguments, evaluated -/
section
variable {env : Dl.Env}
@[simp] theorem vws_nil : vws env [] = some [] := (rfl)
@[simp] theorem vws_cons {r : R} {rs : List R} : vws env (r :: rs) = (r.vw env).ob fun a => (vws env rs).om fun as => a :: as := (rfl)
@[simp] theorem gCallL_ev {f : GF} {ds : List A} {g : Dl.Env → Option (List R × Dl.Env)} : gCallL f ds g env = (g env).ob fun p => (vws p.2 p.1).ob fun as => (f ((as ++ ds).map fun a => .fl (.fz a))).ob fun q => lendK p.2 q.1 := (rfl)
@[simp] theorem lendK_bl {b : Bool} : lendK env (fz (.bl b)) = some (.fz (.bl b), env) := (rfl)
@[simp] theorem lendK_int {i : Int} : lendK env (fz (.int i)) = some (.fz (.int i), env) := (rfl)
end
@[simp] theorem cutA_pre {xs : List A} {k : Nat} : cutA xs none (some (k : Int)) = xs.take k := by
  simp [cutA, HT.sIx_nat, HT.sIx_none]
@[simp] theorem cutA_suf {xs : List A} {k : Nat} : cutA xs (some (k : Int)) none = xs.drop k := by
  simp [cutA, HT.sIx_nat, HT.sIx_none]
  by_cases h : k ≤ xs.length
  · rw [Nat.min_eq_left h, List.take_of_length_le (by simp)]
  · rw [Nat.min_eq_right (by omega), List.drop_of_length_le (by omega : xs.length ≤ xs.length), List.drop_of_length_le (by omega : xs.length ≤ k)]; simp
section
variable {ι : Type} {vs : List Nat} {h : A → Dl.Env → Option Dl.Env} {tt : Dl.Env → Option (Bool × Dl.Env)} {te : Dl.Env → Option (A × Dl.Env)} {env : Dl.Env}
end
/-! ## data that is equal to itself -/
def Rfl (a : A) (d : Nat) : Prop := ∃ p, a.toD = some p ∧ p.canLay0 = true ∧ p.depth ≤ d ∧ PyData.eqv p p = true
theorem Rfl.mono {a : A} {d d' : Nat} (h : Rfl a d) (l : d ≤ d') : Rfl a d' := by
  obtain ⟨p, h1, h2, h3, h4⟩ := h
  exact ⟨p, h1, h2, by omega, h4⟩
theorem rfl_L {d : Nat} : ∀ {xs : List A}, (∀ x ∈ xs, Rfl x d) → ∃ ps, A.toDL xs = some ps ∧ PyData.canLayAll0 ps = true ∧ PyData.depthAll ps ≤ d ∧ PyData.eqvAll ps ps = true
  | [], _ => ⟨[], by simp [A.toDL], by simp [PyData.canLayAll0], by simp [PyData.depthAll], by simp [PyData.eqvAll]⟩
  | x :: xs, h => by
    obtain ⟨p, h1, h2, h3, h4⟩ := h x List.mem_cons_self
    obtain ⟨ps, g1, g2, g3, g4⟩ := rfl_L (xs := xs) fun y m => h y (List.mem_cons_of_mem _ m)
    exact ⟨p :: ps, by simp [A.toDL, h1, g1], by simp [PyData.canLayAll0, h2, g2], by simp only [PyData.depthAll]; omega, by simp [PyData.eqvAll, h4, g4]⟩
theorem rfl_lst {xs : List A} {d : Nat} (h : ∀ x ∈ xs, Rfl x d) : Rfl (.lst xs) (d + 1) := by
  obtain ⟨ps, g1, g2, g3, g4⟩ := rfl_L h
  exact ⟨.list ps, by simp [A.toD, g1], by simp [PyData.canLay0, g2], by simp only [PyData.depth]; omega, by simp [PyData.eqv, g4]⟩
theorem rfl_int {i : Int} : Rfl (.int i) 0 := ⟨.int i, rfl, by simp [PyData.canLay0], by simp [PyData.depth], by simp [PyData.eqv]⟩
theorem rfl_bl {b : Bool} : Rfl (.bl b) 0 := ⟨.bool b, rfl, by simp [PyData.canLay0], by simp [PyData.depth], by simp [PyData.eqv]⟩
theorem Rfl.shape {a : A} {d : Nat} (h : Rfl a d) (hd : d ≤ 60) : ∃ p, a.toD = some p ∧ SeqAt.shaped p = true ∧ PyData.eqv p p = true := by
  obtain ⟨p, h1, h2, h3, h4⟩ := h
  refine ⟨p, h1, ?_, h4⟩
  unfold SeqAt.shaped
  rw [h2, decide_eq_true (by omega)]; rfl
theorem eqD_rfl {a : A} {d : Nat} (h : Rfl a d) (hd : d ≤ 60) : fEqD a a = some (.bl true) := by
  obtain ⟨p, h1, h2, h3⟩ := h.shape hd
  simp [fEqD, h1, h2, h3]
section
variable {α : Type} {e : α → A} {P : α → Prop} {d : Nat}
theorem any_mem [DecidableEq α] {g : α → PyData} (h : ∀ x y, PyData.eqv (g x) (g y) = true ↔ x = y) {y : α} : ∀ {xs : List α}, ((xs.map g).any fun z => PyData.eqv z (g y)) = decide (y ∈ xs)
  | [] => rfl
  | x :: xs => by
    rw [List.map_cons, List.any_cons, any_mem h]
    by_cases c : x = y
    · subst c
      rw [(h x x).mpr rfl]; simp
    · have c' : ¬ y = x := fun z => c z.symm
      have : PyData.eqv (g x) (g y) = false := by
        cases q : PyData.eqv (g x) (g y) with
        | false => rfl
        | true => exact absurd ((h x y).mp q) c
      rw [this]; simp [c']
theorem Dat.inT [DecidableEq α] (h : Dat e P d) (hd : d ≤ 60) {y : α} (py : P y) {xs : List α} (px : ∀ x ∈ xs, P x) : ∃ b, fInT false (e y) (.tup (xs.map e)) = some (.bl b) ∧ (b = true ↔ y ∈ xs) := by
  refine ⟨decide (y ∈ xs), ?_, decide_eq_true_iff⟩
  obtain ⟨g, h1, h2, h3, h4⟩ := h
  have s1 : SeqAt.shaped (g y) = true := Dat.shape h3 h4 (by omega) py
  have s2 : SeqAt.shaped (.tuple (xs.map g)) = true := by
    have := depAll_map h4 (xs := xs)
    unfold SeqAt.shaped
    rw [PyData.canLay0, layAll_map h3 px, PyData.depth, decide_eq_true (by omega)]; rfl
  have am := any_mem h2 (y := y) (xs := xs)
  show ((e y).toD.bind fun d => (A.toDL (xs.map e)).bind fun ds => if SeqAt.shaped d && SeqAt.shaped (.tuple ds) then some (A.bl (if false then !ds.any fun z => PyData.eqv z d else ds.any fun z => PyData.eqv z d)) else none) = _
  rw [h1, toDL_map h1, Option.bind_some, Option.bind_some, s1, s2]
  simp only [Bool.and_self, if_true, Bool.false_eq_true, if_false]
  rw [am]
end
section
variable {n : Nat} {ls ks : List Nat} {T : Nat → Rel} {p : Rel}
/-! total tables -/
/-! the law's own tables -/
theorem lsame_ok (h6 : n ≤ 6) : D__law_same_rows [fz (nA n)] = some (ow ((rowsN n idR).map nL), [fz (nA n)]) := by
  have sm : Sm n := .of (by omega)
  have l1 : (1 : Nat) ≤ sizeLine := sz (by decide)
  have c : Dc__law_same_rows_1 [fz (nA n), .un] = some (.ow (ow ((rowsN n idR).map nL)), [fz (nA n), .un]) := by
    unfold Dc__law_same_rows_1
    rw [rows_idR, saysId, List.map_map]
    exact gComp_all nA _ (by simp [sm]) (by simp [offE]) (fun w m => by simp [cstep, l1]) (by simpa using sm.le)
  simp [D__law_same_rows, fnD_ev, Db__law_same_rows, c]
/-! checks -/
/-! candidates -/
end
end Fn
namespace Fn
open PySem PySem.Spec L2 Dl Dg
section
variable {n : Nat} {ls ks : List Nat} {T : Nat → Rel} {p : Rel}
/-! ## strangers and words that are none -/
def Far (n : Nat) (x : Int) : Prop := (x < 0 ∨ (n : Int) ≤ x) ∧ -2000000 ≤ x ∧ x ≤ 2000000
theorem Far.pr {x : Int} (h : Far n x) : x.natAbs.log2 < 1920 := by
  have h1 := h.2.1
  have h2 := h.2.2
  by_cases z : x.natAbs = 0
  · rw [z]; decide +kernel
  · have := (Nat.log2_lt z (k := 21)).mpr (by omega)
    omega
@[simp] theorem fNeg_int {i : Int} : fNeg (.int i) = some (.int (-i)) := (rfl)
theorem eF4 : eF 4 = (["count"] : List Str) := rfl
/-! a row with a stranger -/
/-! candidates that are refused -/
end
end Fn
namespace Fn
open PySem PySem.Spec L2 Dl Dg
section
variable {n : Nat} {ls ks : List Nat} {T : Nat → Rel} {p : Rel}
theorem ex_P {g h : GS} {env : Dl.Env} {x : Fo} (P : Dl.Env → Prop) (h1 : ∃ e1, P e1 ∧ g env = some (.nx, e1)) (h2 : ∀ e1, P e1 → ∃ e', h e1 = some (x, e')) : ∃ e', gSeq g h env = some (x, e') := by
  obtain ⟨e1, p, h1⟩ := h1
  exact ex_seq h1 (h2 e1 p)
@[simp] theorem isI_int {i : Int} : fIsI "int" (.int i) = some (.bl true) := by
  simp only [fIsI, A.tyn, Option.bind_some, show kitB "int" "int" = some true by decide +kernel, Option.map_some]
@[simp] theorem isI_bool {i : Int} : fIsI "bool" (.int i) = some (.bl false) := by
  simp only [fIsI, A.tyn, Option.bind_some, show kitB "int" "bool" = some false by decide +kernel, Option.map_some]
theorem is_int_int {x : Int} : D__law_is_int [fz (.int x)] = some (fz (.bl true), [fz (.int x)]) := by
  simp [D__law_is_int, fnD_ev, Db__law_is_int]
theorem is_words_ok {ws : List Nat} : D__law_is_words [fz (nL ws)] = some (fz (.bl true), [fz (nL ws)]) := by
  obtain ⟨e', lp, s1, rfl⟩ := loopG_ix (h := hName 1) (b := Dl__law_is_words_1) (env := [fz (nL ws), .un]) nA ws
    (fun i env => ∃ s1, env = [fz (nL ws), s1])
    (by
      rintro i env hi ⟨s1, rfl⟩
      refine ⟨[fz (nL ws), fz (nA ws[i])], [fz (nL ws), fz (nA ws[i])], rfl, ?_, _, rfl⟩
      simp [Dl__law_is_words_1, is_int_int])
    ⟨_, rfl⟩
  simp [D__law_is_words, fnD_ev, Db__law_is_words, lp]
end
end Fn
namespace Fn
open PySem PySem.Spec L2 Dl Dg
/-! ## tables of drawn rows -/
theorem words_f {b : Box} {n k : Nat} {x : Int} (hx : x = (k : Int)) (hb : b.ok) (hn : n ≤ 6) (hk : k ≤ 1) (hk2 : k < 2 ^ n) : ∃ (f : Nat → Bool) (b' : Box), b'.ok ∧ (k = 1 → ∃ w, w < n ∧ f w = true) ∧
    D__law_words [bx b, fz (nA n), fz (.int x)] = some (ow (((List.range n).filter f).map nA), [bx b', fz (nA n), fz (.int x)]) := by
  subst hx
  have p64 : 2 ^ n ≤ 64 := by
    have : n = 0 ∨ n = 1 ∨ n = 2 ∨ n = 3 ∨ n = 4 ∨ n = 5 ∨ n = 6 := by omega
    rcases this with rfl | rfl | rfl | rfl | rfl | rfl | rfl <;> decide
  obtain ⟨P, hP⟩ : ∃ P, P = 2 ^ n := ⟨_, rfl⟩
  obtain ⟨r, b', hr, ob, ht⟩ := take_x (b := b) (2 ^ n - k) ((P : Int) - k) (by omega) hb (by omega) (by omega)
  refine ⟨bit (k + r), b', ob, ?_, ?_⟩
  · rintro rfl
    obtain ⟨w, hw, e⟩ := mask_some n hn (1 + r) (by omega) (by omega) (by omega)
    exact ⟨w, hw, by simp [bit, e]⟩
  · have sm : Sm n := .of (by omega)
    have e1 : ([.int 1, .int 2, .int 4, .int 8, .int 16, .int 32, .int 64] : List A)[n]? = some (nA P) := by
      have : n = 0 ∨ n = 1 ∨ n = 2 ∨ n = 3 ∨ n = 4 ∨ n = 5 ∨ n = 6 := by omega
      subst hP
      rcases this with rfl | rfl | rfl | rfl | rfl | rfl | rfl <;> rfl
    have l7 : (7 : Nat) ≤ sizeLine := sz (by decide)
    have l6 : (6 : Nat) ≤ sizeLine := sz (by decide)
    have c1 : Dc__law_words_1 [bx b', fz (nA n), fz (nA k), fz (.int (k + r)), .un] = some (.ow (ow (((List.range n).filter (bit (k + r))).map nA)), [bx b', fz (nA n), fz (nA k), fz (.int (k + r)), .un]) := by
      unfold Dc__law_words_1
      refine gComp_map nA _ nA (by simp [sm]) (by simp [offE]) (fun w hw => ?_) (by simpa using sm.le)
      have hw : w < n := by simpa using hw
      have w6 : w = 0 ∨ w = 1 ∨ w = 2 ∨ w = 3 ∨ w = 4 ∨ w = 5 := by omega
      obtain ⟨Q, hQ⟩ : ∃ Q, Q = 2 ^ w := ⟨_, rfl⟩
      have e3 : ([.int 1, .int 2, .int 4, .int 8, .int 16, .int 32] : List A)[w]? = some (nA Q) := by
        subst hQ
        rcases w6 with rfl | rfl | rfl | rfl | rfl | rfl <;> rfl
      have p32 : Q ≤ 32 ∧ 0 < Q := by
        subst hQ
        rcases w6 with rfl | rfl | rfl | rfl | rfl | rfl <;> decide
      have cd : CDivB ((k : Int) + r) (Q : Int) := ⟨by omega, by omega⟩
      have e4 : decide (((k : Int) + r) / (Q : Int) % 2 = 1) = bit (k + r) w := by
        rw [bit, ← hQ]
        have : ((k : Int) + r) / (Q : Int) % 2 = (((k + r) / Q % 2 : Nat) : Int) := by push_cast; rfl
        rw [this]
        by_cases c : (k + r) / Q % 2 = 1
        · rw [decide_eq_true c, decide_eq_true (by omega)]
        · rw [decide_eq_false c, decide_eq_false (by omega)]
      simp only [cstep, hName_ev, ob_some, gB_ev, gOp_ev, gTwo_ev, gUn_ev, gOne_ev, gV_ev, gK_ev, gLst_ev, gCons_ev, gNil_ev, gS_ev]
      simp [l6, e3, cd, e4]
      cases bit (k + r) w <;> simp
    simp [D__law_words, fnD_ev, Db__law_words, l7, e1, ht, c1]
section
variable {n m : Nat} {p q : Rel}
theorem rows_snoc {i : Nat} {f : Nat → Bool} : ((List.range i).map fun a => rowN n (p a)) ++ [rowN n f] = (List.range (i + 1)).map fun a => rowN n (if a = i then f else p a) := by
  rw [List.range_succ, List.map_append]
  congr 1
  · refine List.map_congr_left fun a m => ?_
    have : a ≠ i := by have := List.mem_range.mp m; omega
    rw [if_neg this]
  · simp
theorem lrows_ok {b : Box} {k : Nat} {x : Int} (hx : x = (k : Int)) (hb : b.ok) (h1 : 1 ≤ n) (h6 : n ≤ 6) (hk : k ≤ 1) : ∃ (p : Rel) (b' : Box), b'.ok ∧ (k = 1 → ∀ a, a < n → ∃ w, w < n ∧ p a w = true) ∧
    D__law_rows [bx b, fz (nA n), fz (.int x)] = some (ow ((rowsN n p).map nL), [bx b', fz (nA n), fz (.int x)]) := by
  subst hx
  have sm : Sm n := .of (by omega)
  have p2 : 1 < 2 ^ n := Nat.one_lt_two_pow (by omega)
  obtain ⟨e', lp, b', p, s4, rfl, ob, ht⟩ := loopG_rg (h := hName 4) (b := Dl__law_rows_1) (n := n) (env := [bx b, fz (nA n), fz (nA k), ow [], .un])
    (fun i env => ∃ (b' : Box) (p : Rel) (s4 : O), env = [bx b', fz (nA n), fz (nA k), ow (((List.range i).map fun a => rowN n (p a)).map nL), s4] ∧ b'.ok ∧ (k = 1 → ∀ a, a < i → ∃ w, w < n ∧ p a w = true))
    (by
      rintro i env hi ⟨b', p, s4, rfl, ob, ht⟩
      obtain ⟨r, b2, hr, ob2, t1⟩ := take_x (b := b') 3 3 rfl ob (by decide) (by decide)
      have li : i < sizeLine := szl (by omega)
      have l1 : (1 : Nat) ≤ sizeLine := sz (by decide)
      have step : ∀ (f : Nat → Bool) (b3 : Box), b3.ok → (k = 1 → ∃ w, w < n ∧ f w = true) → Dl__law_rows_1 [bx b', fz (nA n), fz (nA k), ow (((List.range i).map fun a => rowN n (p a)).map nL), fz (nA i)] = some (.nx, [bx b3, fz (nA n), fz (nA k), ow (((List.range i).map fun a => rowN n (p a)).map nL ++ [nL (rowN n f)]), fz (nA i)]) →
          ∃ e1 e2, hName 4 (nA i) [bx b', fz (nA n), fz (nA k), ow (((List.range i).map fun a => rowN n (p a)).map nL), s4] = some e1 ∧ Dl__law_rows_1 e1 = some (.nx, e2) ∧ ∃ (b' : Box) (p : Rel) (s4 : O), e2 = [bx b', fz (nA n), fz (nA k), ow (((List.range (i + 1)).map fun a => rowN n (p a)).map nL), s4] ∧ b'.ok ∧ (k = 1 → ∀ a, a < i + 1 → ∃ w, w < n ∧ p a w = true) := by
        intro f b3 ob3 hf e
        refine ⟨_, _, rfl, e, b3, fun a => if a = i then f else p a, fz (nA i), ?_, ob3, fun h a ha => ?_⟩
        · rw [← rows_snoc (n := n) (p := p) (i := i) (f := f), List.map_append]; rfl
        · by_cases c : a = i
          · simp only [c, if_true]; exact hf h
          · simp only [c, if_false]; exact ht h a (by omega)
      by_cases c : r = 1
      · subst c
        obtain ⟨w, b3, hw, ob3, t2⟩ := take_ok (b := b2) (m := n) ob2 (by omega) (by omega)
        have e1 : rowN n (fun o => decide (o ∈ [w])) = [w] := filter_one hw
        refine step (fun o => decide (o ∈ [w])) b3 ob3 (fun _ => ⟨w, hw, by simp⟩) ?_
        rw [e1]
        simp [Dl__law_rows_1, t1, t2, l1, li]
      · have c' : ¬ (r : Int) = 1 := by omega
        obtain ⟨f, b3, ob3, hf, t2⟩ := words_f (b := b2) (n := n) (k := k) rfl ob2 h6 hk (by omega)
        refine step f b3 ob3 hf ?_
        have t2 : D__law_words [bx b2, fz (nA n), fz (nA k)] = some (ow ((rowN n f).map nA), [bx b3, fz (nA n), fz (nA k)]) := t2
        simp [Dl__law_rows_1, t1, c, c', t2, li])
    ⟨b, fun _ _ => false, .un, rfl, hb, fun _ a ha => absurd ha (by omega)⟩
  refine ⟨p, b', ob, ht, ?_⟩
  have lp : loopG (hName 4) Dl__law_rows_1 ((List.range n).map nA) [bx b, fz (nA n), fz (nA k), ow [], .un] = some (.nx, [bx b', fz (nA n), fz (nA k), ow ((rowsN n p).map nL), s4]) := lp
  simp [D__law_rows, fnD_ev, Db__law_rows, sm, lp]
theorem trows_ok (h6 : n ≤ 6) : D_Table_rows [fz (tab n p)] = some (ow ((rowsN n p).map nL), [fz (tab n p)]) := by
  have c : Dc_Table_rows_1 [fz (tab n p), .un] = some (.ow (ow ((rowsN n p).map nL)), [fz (tab n p), .un]) := by
    unfold Dc_Table_rows_1
    exact gComp_all (fun r => A.tup (r.map nA)) _ (by simp) (by simp [offE]) (fun r m => by simp [cstep]) (by simpa [rowsN] using sz (n := n) (by omega))
  simp [D_Table_rows, fnD_ev, Db_Table_rows, c]
theorem rows_len : (rowsN n p).length = n := by simp [rowsN]
theorem same_ok (h6 : n ≤ 6) : D__law_same [fz (tab n p), fz (LL (rowsN n p))] = some (fz (.bl true), [fz (tab n p), fz (LL (rowsN n p))]) := by
  have sm : Sm n := .of (by omega)
  have tr := trows_ok (n := n) (p := p) h6
  have ln := rows_len (n := n) (p := p)
  obtain ⟨e', lp, s3, rfl⟩ := loopG_rg (h := hName 3) (b := Dl__law_same_1) (n := n) (env := [fz (tab n p), fz (LL (rowsN n p)), fz (LL (rowsN n p)), .un])
    (fun i env => ∃ s3, env = [fz (tab n p), fz (LL (rowsN n p)), fz (LL (rowsN n p)), s3])
    (by
      rintro i env hi ⟨s3, rfl⟩
      have e := rowsN_at (p := p) hi
      have iw := is_words_ok (ws := rowN n (p i))
      refine ⟨[fz (tab n p), fz (LL (rowsN n p)), fz (LL (rowsN n p)), fz (nA i)], [fz (tab n p), fz (LL (rowsN n p)), fz (LL (rowsN n p)), fz (nA i)], rfl, ?_, _, rfl⟩
      simp [Dl__law_same_1, e, iw])
    ⟨_, rfl⟩
  simp [D__law_same, fnD_ev, Db__law_same, is_int_int, ln, tr, sm, lp]
end
end Fn
namespace Fn
open PySem PySem.Spec L2 Dl Dg
@[simp] theorem nmx0_0 : ¬ (("leave" : Str) = "size") := by decide +kernel
@[simp] theorem nmx0_1 : ¬ (("leave" : Str) = "_rows") := by decide +kernel
@[simp] theorem nmx0_2 : ¬ (("leave" : Str) = "_pairs") := by decide +kernel
@[simp] theorem nmx0_3 : ¬ (("leave" : Str) = "_hears") := by decide +kernel
@[simp] theorem nmx0_4 : ¬ (("leave" : Str) = "_says") := by decide +kernel
@[simp] theorem nmx0_5 : ¬ (("leave" : Str) = "_known") := by decide +kernel
@[simp] theorem nmx0_6 : ¬ (("leave" : Str) = "_tables") := by decide +kernel
@[simp] theorem nmx0_7 : ¬ (("leave" : Str) = "_clues") := by decide +kernel
@[simp] theorem nmx0_8 : ¬ (("leave" : Str) = "_next") := by decide +kernel
@[simp] theorem nmx1_0 : ¬ (("informed" : Str) = "size") := by decide +kernel
@[simp] theorem nmx1_1 : ¬ (("informed" : Str) = "_rows") := by decide +kernel
@[simp] theorem nmx1_2 : ¬ (("informed" : Str) = "_pairs") := by decide +kernel
@[simp] theorem nmx1_3 : ¬ (("informed" : Str) = "_hears") := by decide +kernel
@[simp] theorem nmx1_4 : ¬ (("informed" : Str) = "_says") := by decide +kernel
@[simp] theorem nmx1_5 : ¬ (("informed" : Str) = "_known") := by decide +kernel
@[simp] theorem nmx1_6 : ¬ (("informed" : Str) = "_tables") := by decide +kernel
@[simp] theorem nmx1_7 : ¬ (("informed" : Str) = "_clues") := by decide +kernel
@[simp] theorem nmx1_8 : ¬ (("informed" : Str) = "_next") := by decide +kernel
@[simp] theorem nmx2_0 : ¬ (("letters" : Str) = "size") := by decide +kernel
@[simp] theorem nmx2_1 : ¬ (("letters" : Str) = "_rows") := by decide +kernel
@[simp] theorem nmx2_2 : ¬ (("letters" : Str) = "_pairs") := by decide +kernel
@[simp] theorem nmx2_3 : ¬ (("letters" : Str) = "_hears") := by decide +kernel
@[simp] theorem nmx2_4 : ¬ (("letters" : Str) = "_says") := by decide +kernel
@[simp] theorem nmx2_5 : ¬ (("letters" : Str) = "_known") := by decide +kernel
@[simp] theorem nmx2_6 : ¬ (("letters" : Str) = "_tables") := by decide +kernel
@[simp] theorem nmx2_7 : ¬ (("letters" : Str) = "_clues") := by decide +kernel
@[simp] theorem nmx2_8 : ¬ (("letters" : Str) = "_next") := by decide +kernel
@[simp] theorem nmx3_0 : ¬ (("add" : Str) = "size") := by decide +kernel
@[simp] theorem nmx3_1 : ¬ (("add" : Str) = "_rows") := by decide +kernel
@[simp] theorem nmx3_2 : ¬ (("add" : Str) = "_pairs") := by decide +kernel
@[simp] theorem nmx3_3 : ¬ (("add" : Str) = "_hears") := by decide +kernel
@[simp] theorem nmx3_4 : ¬ (("add" : Str) = "_says") := by decide +kernel
@[simp] theorem nmx3_5 : ¬ (("add" : Str) = "_known") := by decide +kernel
@[simp] theorem nmx3_6 : ¬ (("add" : Str) = "_tables") := by decide +kernel
@[simp] theorem nmx3_7 : ¬ (("add" : Str) = "_clues") := by decide +kernel
@[simp] theorem nmx3_8 : ¬ (("add" : Str) = "_next") := by decide +kernel
@[simp] theorem nmx4_0 : ¬ (("drop" : Str) = "size") := by decide +kernel
@[simp] theorem nmx4_1 : ¬ (("drop" : Str) = "_rows") := by decide +kernel
@[simp] theorem nmx4_2 : ¬ (("drop" : Str) = "_pairs") := by decide +kernel
@[simp] theorem nmx4_3 : ¬ (("drop" : Str) = "_hears") := by decide +kernel
@[simp] theorem nmx4_4 : ¬ (("drop" : Str) = "_says") := by decide +kernel
@[simp] theorem nmx4_5 : ¬ (("drop" : Str) = "_known") := by decide +kernel
@[simp] theorem nmx4_6 : ¬ (("drop" : Str) = "_tables") := by decide +kernel
@[simp] theorem nmx4_7 : ¬ (("drop" : Str) = "_clues") := by decide +kernel
@[simp] theorem nmx4_8 : ¬ (("drop" : Str) = "_next") := by decide +kernel
@[simp] theorem nmx5_0 : ¬ (("holds" : Str) = "size") := by decide +kernel
@[simp] theorem nmx5_1 : ¬ (("holds" : Str) = "_rows") := by decide +kernel
@[simp] theorem nmx5_2 : ¬ (("holds" : Str) = "_pairs") := by decide +kernel
@[simp] theorem nmx5_3 : ¬ (("holds" : Str) = "_hears") := by decide +kernel
@[simp] theorem nmx5_4 : ¬ (("holds" : Str) = "_says") := by decide +kernel
@[simp] theorem nmx5_5 : ¬ (("holds" : Str) = "_known") := by decide +kernel
@[simp] theorem nmx5_6 : ¬ (("holds" : Str) = "_tables") := by decide +kernel
@[simp] theorem nmx5_7 : ¬ (("holds" : Str) = "_clues") := by decide +kernel
@[simp] theorem nmx5_8 : ¬ (("holds" : Str) = "_next") := by decide +kernel
@[simp] theorem nmx6_0 : ¬ (("numbers" : Str) = "size") := by decide +kernel
@[simp] theorem nmx6_1 : ¬ (("numbers" : Str) = "_rows") := by decide +kernel
@[simp] theorem nmx6_2 : ¬ (("numbers" : Str) = "_pairs") := by decide +kernel
@[simp] theorem nmx6_3 : ¬ (("numbers" : Str) = "_hears") := by decide +kernel
@[simp] theorem nmx6_4 : ¬ (("numbers" : Str) = "_says") := by decide +kernel
@[simp] theorem nmx6_5 : ¬ (("numbers" : Str) = "_known") := by decide +kernel
@[simp] theorem nmx6_6 : ¬ (("numbers" : Str) = "_tables") := by decide +kernel
@[simp] theorem nmx6_7 : ¬ (("numbers" : Str) = "_clues") := by decide +kernel
@[simp] theorem nmx6_8 : ¬ (("numbers" : Str) = "_next") := by decide +kernel
@[simp] theorem nmx7_0 : ¬ (("greatest" : Str) = "size") := by decide +kernel
@[simp] theorem nmx7_1 : ¬ (("greatest" : Str) = "_rows") := by decide +kernel
@[simp] theorem nmx7_2 : ¬ (("greatest" : Str) = "_pairs") := by decide +kernel
@[simp] theorem nmx7_3 : ¬ (("greatest" : Str) = "_hears") := by decide +kernel
@[simp] theorem nmx7_4 : ¬ (("greatest" : Str) = "_says") := by decide +kernel
@[simp] theorem nmx7_5 : ¬ (("greatest" : Str) = "_known") := by decide +kernel
@[simp] theorem nmx7_6 : ¬ (("greatest" : Str) = "_tables") := by decide +kernel
@[simp] theorem nmx7_7 : ¬ (("greatest" : Str) = "_clues") := by decide +kernel
@[simp] theorem nmx7_8 : ¬ (("greatest" : Str) = "_next") := by decide +kernel
@[simp] theorem nmx8_0 : ¬ (("fits" : Str) = "size") := by decide +kernel
@[simp] theorem nmx8_1 : ¬ (("fits" : Str) = "_rows") := by decide +kernel
@[simp] theorem nmx8_2 : ¬ (("fits" : Str) = "_pairs") := by decide +kernel
@[simp] theorem nmx8_3 : ¬ (("fits" : Str) = "_hears") := by decide +kernel
@[simp] theorem nmx8_4 : ¬ (("fits" : Str) = "_says") := by decide +kernel
@[simp] theorem nmx8_5 : ¬ (("fits" : Str) = "_known") := by decide +kernel
@[simp] theorem nmx8_6 : ¬ (("fits" : Str) = "_tables") := by decide +kernel
@[simp] theorem nmx8_7 : ¬ (("fits" : Str) = "_clues") := by decide +kernel
@[simp] theorem nmx8_8 : ¬ (("fits" : Str) = "_next") := by decide +kernel
@[simp] theorem nmx9_0 : ¬ (("solves" : Str) = "size") := by decide +kernel
@[simp] theorem nmx9_1 : ¬ (("solves" : Str) = "_rows") := by decide +kernel
@[simp] theorem nmx9_2 : ¬ (("solves" : Str) = "_pairs") := by decide +kernel
@[simp] theorem nmx9_3 : ¬ (("solves" : Str) = "_hears") := by decide +kernel
@[simp] theorem nmx9_4 : ¬ (("solves" : Str) = "_says") := by decide +kernel
@[simp] theorem nmx9_5 : ¬ (("solves" : Str) = "_known") := by decide +kernel
@[simp] theorem nmx9_6 : ¬ (("solves" : Str) = "_tables") := by decide +kernel
@[simp] theorem nmx9_7 : ¬ (("solves" : Str) = "_clues") := by decide +kernel
@[simp] theorem nmx9_8 : ¬ (("solves" : Str) = "_next") := by decide +kernel
@[simp] theorem nmx10_0 : ¬ (("told" : Str) = "size") := by decide +kernel
@[simp] theorem nmx10_1 : ¬ (("told" : Str) = "_rows") := by decide +kernel
@[simp] theorem nmx10_2 : ¬ (("told" : Str) = "_pairs") := by decide +kernel
@[simp] theorem nmx10_3 : ¬ (("told" : Str) = "_hears") := by decide +kernel
@[simp] theorem nmx10_4 : ¬ (("told" : Str) = "_says") := by decide +kernel
@[simp] theorem nmx10_5 : ¬ (("told" : Str) = "_known") := by decide +kernel
@[simp] theorem nmx10_6 : ¬ (("told" : Str) = "_tables") := by decide +kernel
@[simp] theorem nmx10_7 : ¬ (("told" : Str) = "_clues") := by decide +kernel
@[simp] theorem nmx10_8 : ¬ (("told" : Str) = "_next") := by decide +kernel
@[simp] theorem nmx11_0 : ¬ (("undo" : Str) = "size") := by decide +kernel
@[simp] theorem nmx11_1 : ¬ (("undo" : Str) = "_rows") := by decide +kernel
@[simp] theorem nmx11_2 : ¬ (("undo" : Str) = "_pairs") := by decide +kernel
@[simp] theorem nmx11_3 : ¬ (("undo" : Str) = "_hears") := by decide +kernel
@[simp] theorem nmx11_4 : ¬ (("undo" : Str) = "_says") := by decide +kernel
@[simp] theorem nmx11_5 : ¬ (("undo" : Str) = "_known") := by decide +kernel
@[simp] theorem nmx11_6 : ¬ (("undo" : Str) = "_tables") := by decide +kernel
@[simp] theorem nmx11_7 : ¬ (("undo" : Str) = "_clues") := by decide +kernel
@[simp] theorem nmx11_8 : ¬ (("undo" : Str) = "_next") := by decide +kernel
@[simp] theorem nmx12_0 : ¬ (("redo" : Str) = "size") := by decide +kernel
@[simp] theorem nmx12_1 : ¬ (("redo" : Str) = "_rows") := by decide +kernel
@[simp] theorem nmx12_2 : ¬ (("redo" : Str) = "_pairs") := by decide +kernel
@[simp] theorem nmx12_3 : ¬ (("redo" : Str) = "_hears") := by decide +kernel
@[simp] theorem nmx12_4 : ¬ (("redo" : Str) = "_says") := by decide +kernel
@[simp] theorem nmx12_5 : ¬ (("redo" : Str) = "_known") := by decide +kernel
@[simp] theorem nmx12_6 : ¬ (("redo" : Str) = "_tables") := by decide +kernel
@[simp] theorem nmx12_7 : ¬ (("redo" : Str) = "_clues") := by decide +kernel
@[simp] theorem nmx12_8 : ¬ (("redo" : Str) = "_next") := by decide +kernel
@[simp] theorem nmx13_0 : ¬ (("names" : Str) = "size") := by decide +kernel
@[simp] theorem nmx13_1 : ¬ (("names" : Str) = "_rows") := by decide +kernel
@[simp] theorem nmx13_2 : ¬ (("names" : Str) = "_pairs") := by decide +kernel
@[simp] theorem nmx13_3 : ¬ (("names" : Str) = "_hears") := by decide +kernel
@[simp] theorem nmx13_4 : ¬ (("names" : Str) = "_says") := by decide +kernel
@[simp] theorem nmx13_5 : ¬ (("names" : Str) = "_known") := by decide +kernel
@[simp] theorem nmx13_6 : ¬ (("names" : Str) = "_tables") := by decide +kernel
@[simp] theorem nmx13_7 : ¬ (("names" : Str) = "_clues") := by decide +kernel
@[simp] theorem nmx13_8 : ¬ (("names" : Str) = "_next") := by decide +kernel
@[simp] theorem nmx14_0 : ¬ (("walk" : Str) = "size") := by decide +kernel
@[simp] theorem nmx14_1 : ¬ (("walk" : Str) = "_rows") := by decide +kernel
@[simp] theorem nmx14_2 : ¬ (("walk" : Str) = "_pairs") := by decide +kernel
@[simp] theorem nmx14_3 : ¬ (("walk" : Str) = "_hears") := by decide +kernel
@[simp] theorem nmx14_4 : ¬ (("walk" : Str) = "_says") := by decide +kernel
@[simp] theorem nmx14_5 : ¬ (("walk" : Str) = "_known") := by decide +kernel
@[simp] theorem nmx14_6 : ¬ (("walk" : Str) = "_tables") := by decide +kernel
@[simp] theorem nmx14_7 : ¬ (("walk" : Str) = "_clues") := by decide +kernel
@[simp] theorem nmx14_8 : ¬ (("walk" : Str) = "_next") := by decide +kernel
@[simp] theorem nmx15_0 : ¬ (("least" : Str) = "size") := by decide +kernel
@[simp] theorem nmx15_1 : ¬ (("least" : Str) = "_rows") := by decide +kernel
@[simp] theorem nmx15_2 : ¬ (("least" : Str) = "_pairs") := by decide +kernel
@[simp] theorem nmx15_3 : ¬ (("least" : Str) = "_hears") := by decide +kernel
@[simp] theorem nmx15_4 : ¬ (("least" : Str) = "_says") := by decide +kernel
@[simp] theorem nmx15_5 : ¬ (("least" : Str) = "_known") := by decide +kernel
@[simp] theorem nmx15_6 : ¬ (("least" : Str) = "_tables") := by decide +kernel
@[simp] theorem nmx15_7 : ¬ (("least" : Str) = "_clues") := by decide +kernel
@[simp] theorem nmx15_8 : ¬ (("least" : Str) = "_next") := by decide +kernel
@[simp] theorem nmx16_0 : ¬ (("name_of" : Str) = "size") := by decide +kernel
@[simp] theorem nmx16_1 : ¬ (("name_of" : Str) = "_rows") := by decide +kernel
@[simp] theorem nmx16_2 : ¬ (("name_of" : Str) = "_pairs") := by decide +kernel
@[simp] theorem nmx16_3 : ¬ (("name_of" : Str) = "_hears") := by decide +kernel
@[simp] theorem nmx16_4 : ¬ (("name_of" : Str) = "_says") := by decide +kernel
@[simp] theorem nmx16_5 : ¬ (("name_of" : Str) = "_known") := by decide +kernel
@[simp] theorem nmx16_6 : ¬ (("name_of" : Str) = "_tables") := by decide +kernel
@[simp] theorem nmx16_7 : ¬ (("name_of" : Str) = "_clues") := by decide +kernel
@[simp] theorem nmx16_8 : ¬ (("name_of" : Str) = "_next") := by decide +kernel
@[simp] theorem nmx17_0 : ¬ (("behind" : Str) = "size") := by decide +kernel
@[simp] theorem nmx17_1 : ¬ (("behind" : Str) = "_rows") := by decide +kernel
@[simp] theorem nmx17_2 : ¬ (("behind" : Str) = "_pairs") := by decide +kernel
@[simp] theorem nmx17_3 : ¬ (("behind" : Str) = "_hears") := by decide +kernel
@[simp] theorem nmx17_4 : ¬ (("behind" : Str) = "_says") := by decide +kernel
@[simp] theorem nmx17_5 : ¬ (("behind" : Str) = "_known") := by decide +kernel
@[simp] theorem nmx17_6 : ¬ (("behind" : Str) = "_tables") := by decide +kernel
@[simp] theorem nmx17_7 : ¬ (("behind" : Str) = "_clues") := by decide +kernel
@[simp] theorem nmx17_8 : ¬ (("behind" : Str) = "_next") := by decide +kernel
@[simp] theorem nmx18_0 : ¬ (("reached" : Str) = "size") := by decide +kernel
@[simp] theorem nmx18_1 : ¬ (("reached" : Str) = "_rows") := by decide +kernel
@[simp] theorem nmx18_2 : ¬ (("reached" : Str) = "_pairs") := by decide +kernel
@[simp] theorem nmx18_3 : ¬ (("reached" : Str) = "_hears") := by decide +kernel
@[simp] theorem nmx18_4 : ¬ (("reached" : Str) = "_says") := by decide +kernel
@[simp] theorem nmx18_5 : ¬ (("reached" : Str) = "_known") := by decide +kernel
@[simp] theorem nmx18_6 : ¬ (("reached" : Str) = "_tables") := by decide +kernel
@[simp] theorem nmx18_7 : ¬ (("reached" : Str) = "_clues") := by decide +kernel
@[simp] theorem nmx18_8 : ¬ (("reached" : Str) = "_next") := by decide +kernel
@[simp] theorem nmx19_0 : ¬ (("ahead" : Str) = "size") := by decide +kernel
@[simp] theorem nmx19_1 : ¬ (("ahead" : Str) = "_rows") := by decide +kernel
@[simp] theorem nmx19_2 : ¬ (("ahead" : Str) = "_pairs") := by decide +kernel
@[simp] theorem nmx19_3 : ¬ (("ahead" : Str) = "_hears") := by decide +kernel
@[simp] theorem nmx19_4 : ¬ (("ahead" : Str) = "_says") := by decide +kernel
@[simp] theorem nmx19_5 : ¬ (("ahead" : Str) = "_known") := by decide +kernel
@[simp] theorem nmx19_6 : ¬ (("ahead" : Str) = "_tables") := by decide +kernel
@[simp] theorem nmx19_7 : ¬ (("ahead" : Str) = "_clues") := by decide +kernel
@[simp] theorem nmx19_8 : ¬ (("ahead" : Str) = "_next") := by decide +kernel
@[simp] theorem nmx20_0 : ¬ (("rhythm" : Str) = "size") := by decide +kernel
@[simp] theorem nmx20_1 : ¬ (("rhythm" : Str) = "_rows") := by decide +kernel
@[simp] theorem nmx20_2 : ¬ (("rhythm" : Str) = "_pairs") := by decide +kernel
@[simp] theorem nmx20_3 : ¬ (("rhythm" : Str) = "_hears") := by decide +kernel
@[simp] theorem nmx20_4 : ¬ (("rhythm" : Str) = "_says") := by decide +kernel
@[simp] theorem nmx20_5 : ¬ (("rhythm" : Str) = "_known") := by decide +kernel
@[simp] theorem nmx20_6 : ¬ (("rhythm" : Str) = "_tables") := by decide +kernel
@[simp] theorem nmx20_7 : ¬ (("rhythm" : Str) = "_clues") := by decide +kernel
@[simp] theorem nmx20_8 : ¬ (("rhythm" : Str) = "_next") := by decide +kernel
@[simp] theorem nmx21_0 : ¬ (("search" : Str) = "size") := by decide +kernel
@[simp] theorem nmx21_1 : ¬ (("search" : Str) = "_rows") := by decide +kernel
@[simp] theorem nmx21_2 : ¬ (("search" : Str) = "_pairs") := by decide +kernel
@[simp] theorem nmx21_3 : ¬ (("search" : Str) = "_hears") := by decide +kernel
@[simp] theorem nmx21_4 : ¬ (("search" : Str) = "_says") := by decide +kernel
@[simp] theorem nmx21_5 : ¬ (("search" : Str) = "_known") := by decide +kernel
@[simp] theorem nmx21_6 : ¬ (("search" : Str) = "_tables") := by decide +kernel
@[simp] theorem nmx21_7 : ¬ (("search" : Str) = "_clues") := by decide +kernel
@[simp] theorem nmx21_8 : ¬ (("search" : Str) = "_next") := by decide +kernel
@[simp] theorem nmx22_0 : ¬ (("further" : Str) = "size") := by decide +kernel
@[simp] theorem nmx22_1 : ¬ (("further" : Str) = "_rows") := by decide +kernel
@[simp] theorem nmx22_2 : ¬ (("further" : Str) = "_pairs") := by decide +kernel
@[simp] theorem nmx22_3 : ¬ (("further" : Str) = "_hears") := by decide +kernel
@[simp] theorem nmx22_4 : ¬ (("further" : Str) = "_says") := by decide +kernel
@[simp] theorem nmx22_5 : ¬ (("further" : Str) = "_known") := by decide +kernel
@[simp] theorem nmx22_6 : ¬ (("further" : Str) = "_tables") := by decide +kernel
@[simp] theorem nmx22_7 : ¬ (("further" : Str) = "_clues") := by decide +kernel
@[simp] theorem nmx22_8 : ¬ (("further" : Str) = "_next") := by decide +kernel
@[simp] theorem nmx23_0 : ¬ (("earlier" : Str) = "size") := by decide +kernel
@[simp] theorem nmx23_1 : ¬ (("earlier" : Str) = "_rows") := by decide +kernel
@[simp] theorem nmx23_2 : ¬ (("earlier" : Str) = "_pairs") := by decide +kernel
@[simp] theorem nmx23_3 : ¬ (("earlier" : Str) = "_hears") := by decide +kernel
@[simp] theorem nmx23_4 : ¬ (("earlier" : Str) = "_says") := by decide +kernel
@[simp] theorem nmx23_5 : ¬ (("earlier" : Str) = "_known") := by decide +kernel
@[simp] theorem nmx23_6 : ¬ (("earlier" : Str) = "_tables") := by decide +kernel
@[simp] theorem nmx23_7 : ¬ (("earlier" : Str) = "_clues") := by decide +kernel
@[simp] theorem nmx23_8 : ¬ (("earlier" : Str) = "_next") := by decide +kernel
/-! ## lent instances, own items, dict.pop, evaluated -/
section
variable {env : Dl.Env} {nss : List (List Str)}
@[simp] theorem nsOf_un : O.un.nsOf = none := (rfl)
@[simp] theorem nsOf_fl {f : Fl} : (O.fl f).nsOf = none := (rfl)
@[simp] theorem nsOf_ins {c : Nat} {ns : List Str} {fs : List Fl} : (O.ins c ns fs).nsOf = some ns := (rfl)
@[simp] theorem gCallA_ev {f : GF} {ds : List A} {g : Dl.Env → Option (List R × Dl.Env)} : gCallA f ds g env = (g env).ob fun p => lendG f (p.1 ++ ds.map .fz) p.2 := (rfl)
@[simp] theorem gMethA_ev {c : Nat} {m : Str} {f : GF} {ds : List A} {go : G} {g : Dl.Env → Option (List R × Dl.Env)} : gMethA c m f ds go g env = (go env).ob fun p => if p.1.isPf || p.1.tmp.isOw then none else
  (p.1.tmp.vw p.2).ob fun a => if insOf c m a then (g p.2).ob fun q => lendG f (p.1.tmp :: (q.1 ++ ds.map .fz)) q.2 else none := (rfl)
def op2AK (cond : A → A → Bool) (f : GF) : List R × Dl.Env → Option (R × Dl.Env)
  | ([r1, r2], e) => (r1.vw e).ob fun a => (r2.vw e).ob fun b => if cond a b then lendG f [r1, r2] e else none
  | _ => none
@[simp] theorem op2AK_two {cond : A → A → Bool} {f : GF} {r1 r2 : R} {e : Dl.Env} : op2AK cond f ([r1, r2], e) = (r1.vw e).ob fun a => (r2.vw e).ob fun b => if cond a b then lendG f [r1, r2] e else none := (rfl)
@[simp] theorem gOp2A_ev {cond : A → A → Bool} {f : GF} {ga gb : G} : gOp2A cond f ga gb env = (gA ga (gA gb gA0) env).ob (op2AK cond f) := by
  unfold gOp2A Option.ob; congr 1; funext ⟨rs, e⟩
  match rs with
  | [] => rfl
  | [_] => rfl
  | [_, _] => rfl
  | _ :: _ :: _ :: _ => rfl
@[simp] theorem avoid_non : avoid nss .non = true := by simp [avoid]
@[simp] theorem avoid_bl {b : Bool} : avoid nss (.bl b) = true := by simp [avoid]
@[simp] theorem avoid_int {i : Int} : avoid nss (.int i) = true := by simp [avoid]
@[simp] theorem avoid_str {s : Str} : avoid nss (.str s) = true := by simp [avoid]
@[simp] theorem avoidL_nil : avoidL nss [] = true := by simp [avoidL]
@[simp] theorem avoidL_cons {x : A} {xs : List A} : avoidL nss (x :: xs) = (avoid nss x && avoidL nss xs) := by simp [avoidL]
/-! own items, pop, del -/
@[simp] theorem gSetO_ev {c : Nat} {f : GF} {gv gi : Dl.Env → Option (A × Dl.Env)} {g : G} : gSetO c f gv g gi env = (setOA c gv g gi env).ob fun p => (callG f p.1 p.2).om fun r => (.nx, r.2) := (rfl)
def delK (e : Dl.Env) (r : R) (k : A) : Fl → Option (Fo × Dl.Env)
  | .dK ks xs => (keyA k).bind fun q' => if (valA ks xs q').isSome then some (.nx, putP e r (.dK (dropZ ks xs q').1 (dropZ ks xs q').2)) else none
  | _ => none
@[simp] theorem delK_ev {e : Dl.Env} {r : R} {k : A} {ks : List Key} {xs : List A} : delK e r k (.dK ks xs) = (keyA k).ob fun q' => if (valA ks xs q').isSome then some (.nx, putP e r (.dK (dropZ ks xs q').1 (dropZ ks xs q').2)) else none := (rfl)
@[simp] theorem gDDel_ev {pk : Bool} {g gk : G} : gDDel pk g gk env = (g env).ob fun q => if (!q.1.isPf || pk) then (gOne gk q.2).ob fun z => (getP z.2 q.1).ob fun fl => delK z.2 q.1 z.1 fl else none := by
  unfold gDDel Option.ob
  refine congrArg _ (funext fun q => ?_)
  split
  · refine congrArg _ (funext fun z => congrArg _ (funext fun fl => ?_))
    cases fl <;> rfl
  · rfl
@[simp] theorem isDK_dK {ks : List Key} {xs : List A} : isDK (.dK ks xs) = true := (rfl)
def popK (e : Dl.Env) (r : R) (k : A) : Fl → Option (R × Dl.Env)
  | .dK ks xs => (keyA k).bind fun q' => (valA ks xs q').map fun a => (.fz a, putP e r (.dK (dropZ ks xs q').1 (dropZ ks xs q').2))
  | _ => none
@[simp] theorem popK_ev {e : Dl.Env} {r : R} {k : A} {ks : List Key} {xs : List A} : popK e r k (.dK ks xs) = (keyA k).ob fun q' => (valA ks xs q').om fun a => (.fz a, putP e r (.dK (dropZ ks xs q').1 (dropZ ks xs q').2)) := (rfl)
@[simp] theorem gDPop_ev {pk : Bool} {g gk : G} : gDPop pk g gk env = (g env).ob fun q => (getP q.2 q.1).ob fun f0 => if isDK f0 && (!q.1.isPf || pk) then (gOne gk q.2).ob fun z => (getP z.2 q.1).ob fun fl => popK z.2 q.1 z.1 fl else none := by
  unfold gDPop Option.ob
  refine congrArg _ (funext fun q => congrArg _ (funext fun f0 => ?_))
  split
  · refine congrArg _ (funext fun z => congrArg _ (funext fun fl => ?_))
    cases fl <;> rfl
  · rfl
end
section
variable {n c : Nat} {ks ls : List Nat} {T : Nat → Rel} {P : A} {q : Rel}
/-! ## dicts by letters -/
/-! ## casts that are changed -/
abbrev cI (n : Nat) (ks : List Nat) (T : Nat → Rel) : O := .ins 1 ["size", "_tables"] [.fz (nA n), .dK (ks.map cK) (ks.map fun c => tab n (T c))]
abbrev cF (n : Nat) (ks : List Nat) (T : Nat → Rel) : A := .ins 1 ["size", "_tables"] [nA n, .dK (ks.map cK) (ks.map fun c => tab n (T c))]
end
end Fn
namespace Fn
open PySem PySem.Spec L2 Dl Dg
@[simp] theorem bMeth_ev {env : Dl.Env} {c : Nat} {m : Str} {b : BF} {ds : List A} {go : G} {g : Dl.Env → Option (List R × Dl.Env)} : bMeth c m b ds go g env = (go env).ob fun p => if p.1.isPf || p.1.tmp.isOw then none else
  (p.1.tmp.vw p.2).ob fun a => if insOf c m a then (g p.2).ob fun q => callB b (p.1.tmp :: (q.1 ++ ds.map .fz)) q.2 else none := (rfl)
section
variable {n c : Nat} {ks ls : List Nat} {T : Nat → Rel} {P : A} {p q : Rel}
/-! ## the law's own tables, kept in an owned dict -/
/-! ## casts -/
/-! ## through, refused -/
end
end Fn
namespace Fn
open PySem PySem.Spec L2 Dl Dg PySem.Builtin PySem.Builtin.Str
/-! ## a letter found in a row -/
end Fn
namespace Fn
open PySem PySem.Spec L2 Dl Dg
section
variable {n c : Nat} {ks ls : List Nat} {T : Nat → Rel} {P : A} {p q : Rel} {h : List Nat} {s : List (List Nat)}
end
end Fn
namespace Fn
open PySem PySem.Spec L2 Dl Dg
@[simp] theorem gOwn_ev {ok : R → Bool} {c : Nat} {f : GF} {ga : G} {env : Dl.Env} : gOwn ok c f ga env = (gOp1 (A.isIns c) f ga env).ob fun p => if ok p.1 then some p else none := (rfl)
section
variable {n m c : Nat} {ks ls : List Nat} {T : Nat → Rel} {P : A} {p q : Rel} {h : List Nat} {s : List (List Nat)}
theorem nodup_le2 : ∀ {l k : List Nat}, l.Nodup → (∀ x ∈ l, x ∈ k) → l.length ≤ k.length
  | [], _, _, _ => Nat.zero_le _
  | a :: l, k, nd, h => by
    rw [List.nodup_cons] at nd
    have m := h a List.mem_cons_self
    have e := List.length_erase_of_mem m
    have := nodup_le2 (l := l) (k := k.erase a) nd.2 (fun x mx => by
      have h1 := h x (List.mem_cons_of_mem _ mx)
      have ne : x ≠ a := fun z => nd.1 (z ▸ mx)
      exact (List.mem_erase_of_ne ne).mpr h1)
    have := List.length_pos_of_mem m
    rw [List.length_cons]; omega
/-! ## put, refused -/
end
end Fn
namespace Fn
open PySem PySem.Spec L2 Dl Dg
section
variable {env : Dl.Env} {nss : List (List Str)} {l d : Bool}
@[simp] theorem gCallB_ev {f : GF} {ds : List A} {g : Dl.Env → Option (List R × Dl.Env)} : gCallB f ds g env = (g env).ob fun p => lendH f (p.1 ++ ds.map .fz) p.2 := (rfl)
@[simp] theorem gMethB_ev {c : Nat} {m : Str} {f : GF} {ds : List A} {go : G} {g : Dl.Env → Option (List R × Dl.Env)} : gMethB c m f ds go g env = (go env).ob fun p => if p.1.isPf || p.1.tmp.isOw then none else
  (p.1.tmp.vw p.2).ob fun a => if insOf c m a then (g p.2).ob fun q => lendH f (p.1.tmp :: (q.1 ++ ds.map .fz)) q.2 else none := (rfl)
@[simp] theorem hasL_ins {c : Nat} {ns : List Str} {fs : List Fl} : (O.ins c ns fs).hasL = fs.any Fl.isLs := (rfl)
@[simp] theorem hasD_ins {c : Nat} {ns : List Str} {fs : List Fl} : (O.ins c ns fs).hasD = fs.any Fl.isDc := (rfl)
@[simp] theorem hasL_fl {f : Fl} : (O.fl f).hasL = f.isLs := (rfl)
@[simp] theorem hasD_fl {f : Fl} : (O.fl f).hasD = f.isDc := (rfl)
@[simp] theorem isLs_fz {a : A} : (Fl.fz a).isLs = false := (rfl)
@[simp] theorem isLs_lst {a : List A} : (Fl.lst a).isLs = true := (rfl)
@[simp] theorem isLs_dK {k : List Key} {a : List A} : (Fl.dK k a).isLs = false := (rfl)
@[simp] theorem isDc_fz {a : A} : (Fl.fz a).isDc = false := (rfl)
@[simp] theorem isDc_lst {a : List A} : (Fl.lst a).isDc = false := (rfl)
@[simp] theorem isDc_dK {k : List Key} {a : List A} : (Fl.dK k a).isDc = true := (rfl)
@[simp] theorem avoid2_non : avoid2 l d nss .non = true := by simp [avoid2]
@[simp] theorem avoid2_bl {b : Bool} : avoid2 l d nss (.bl b) = true := by simp [avoid2]
@[simp] theorem avoid2_int {i : Int} : avoid2 l d nss (.int i) = true := by simp [avoid2]
@[simp] theorem avoid2_str {s : Str} : avoid2 l d nss (.str s) = true := by simp [avoid2]
@[simp] theorem avoidL2_nil : avoidL2 l d nss [] = true := by simp [avoidL2]
@[simp] theorem avoidL2_cons {x : A} {xs : List A} : avoidL2 l d nss (x :: xs) = (avoid2 l d nss x && avoidL2 l d nss xs) := by simp [avoidL2]
@[simp] theorem noD_un : O.noD .un = true := (rfl)
@[simp] theorem noD_fz {a : A} : O.noD (fz a) = avoid2 true false [] a := (rfl)
@[simp] theorem noD_dK {k : List Key} {a : List A} : O.noD (.fl (.dK k a)) = avoidL2 true false [] a := (rfl)
@[simp] theorem noD_ow {a : List A} : O.noD (ow a) = avoidL2 true false [] a := (rfl)
@[simp] theorem noD_ins {c : Nat} {ns : List Str} {fs : List Fl} : O.noD (.ins c ns fs) = fs.all (avoidF true false []) := (rfl)
@[simp] theorem avF_fz {a : A} : avoidF l d nss (.fz a) = avoid2 l d nss a := (rfl)
@[simp] theorem avF_lst {a : List A} : avoidF l d nss (.lst a) = avoidL2 l d nss a := (rfl)
@[simp] theorem avF_dK {k : List Key} {a : List A} : avoidF l d nss (.dK k a) = avoidL2 l d nss a := (rfl)
end
section
variable {n m c : Nat} {ks ls : List Nat} {T : Nat → Rel} {P : A} {p q : Rel}
section
open PySem.Builtin PySem.Builtin.Str
end
end
end Fn
namespace Fn
open PySem PySem.Spec L2 Dl Dg
/-! ## powers of a relation -/
/-- the same below n -/
def EqN (n : Nat) (p q : Rel) : Prop := ∀ a, a < n → ∀ b, b < n → p a b = q a b
section
variable {n : Nat} {p q r : Rel}
theorem EqN.refl : EqN n p p := fun _ _ _ _ => rfl
theorem EqN.symm (h : EqN n p q) : EqN n q p := fun a ha b hb => (h a ha b hb).symm
theorem EqN.trans (h : EqN n p q) (k : EqN n q r) : EqN n p r := fun a ha b hb => (h a ha b hb).trans (k a ha b hb)
theorem tab_eqN (h : EqN n p q) : tab n p = tab n q := by
  have e : ∀ a, a < n → rowN n (p a) = rowN n (q a) := fun a ha => rowN_congr fun b hb => h a ha b hb
  have e1 : rowsN n p = rowsN n q := List.map_congr_left fun a m => e a (List.mem_range.mp m)
  have e2 : pairsN n p = pairsN n q := by
    unfold pairsN
    rw [List.flatMap_def, List.flatMap_def]
    congr 1
    exact List.map_congr_left fun a m => by rw [e a (List.mem_range.mp m)]
  unfold tab
  rw [e1, e2]
theorem mulR_iff {a b : Nat} : mulR n p q a b = true ↔ ∃ m, m < n ∧ p a m = true ∧ q m b = true := by
  unfold mulR
  simp [List.any_eq_true]
theorem mulR_eqN {p' q' : Rel} (h : EqN n p p') (k : EqN n q q') : EqN n (mulR n p q) (mulR n p' q') := fun a ha b hb => by
  rw [Bool.eq_iff_iff, mulR_iff, mulR_iff]
  exact ⟨fun ⟨m, hm, x, y⟩ => ⟨m, hm, by rw [← h a ha m hm]; exact x, by rw [← k m hm b hb]; exact y⟩, fun ⟨m, hm, x, y⟩ => ⟨m, hm, by rw [h a ha m hm]; exact x, by rw [k m hm b hb]; exact y⟩⟩
theorem mul_assoc : EqN n (mulR n (mulR n p q) r) (mulR n p (mulR n q r)) := fun a _ b _ => by
  rw [Bool.eq_iff_iff, mulR_iff, mulR_iff]
  constructor
  · rintro ⟨m, hm, h, h3⟩
    obtain ⟨k, hk, h1, h2⟩ := mulR_iff.mp h
    exact ⟨k, hk, h1, mulR_iff.mpr ⟨m, hm, h2, h3⟩⟩
  · rintro ⟨k, hk, h1, h⟩
    obtain ⟨m, hm, h2, h3⟩ := mulR_iff.mp h
    exact ⟨m, hm, mulR_iff.mpr ⟨k, hk, h1, h2⟩, h3⟩
theorem one_mul : EqN n (mulR n idR p) p := fun a ha b _ => by
  rw [Bool.eq_iff_iff, mulR_iff]
  exact ⟨fun ⟨m, _, h1, h2⟩ => by have : a = m := by simpa [idR] using h1
                                  rw [this]; exact h2, fun h => ⟨a, ha, by simp [idR], h⟩⟩
theorem mul_one : EqN n (mulR n p idR) p := fun a _ b hb => by
  rw [Bool.eq_iff_iff, mulR_iff]
  exact ⟨fun ⟨m, _, h1, h2⟩ => by have : m = b := by simpa [idR] using h2
                                  rw [← this]; exact h1, fun h => ⟨b, hb, h, by simp [idR]⟩⟩
def powR (n : Nat) (p : Rel) : Nat → Rel
  | 0 => idR
  | k + 1 => mulR n (powR n p k) p
theorem pow_add {i : Nat} : ∀ {j : Nat}, EqN n (powR n p (i + j)) (mulR n (powR n p i) (powR n p j))
  | 0 => mul_one.symm
  | j + 1 => ((mulR_eqN (pow_add (i := i) (j := j)) EqN.refl).trans mul_assoc)
theorem pow_sq : ∀ {k : Nat}, EqN n (powR n (mulR n p p) k) (powR n p (2 * k))
  | 0 => EqN.refl
  | k + 1 => by
    refine (mulR_eqN (pow_sq (k := k)) EqN.refl).trans ?_
    exact mul_assoc.symm
/-! ### a reflexive relation: from n on nothing comes -/
end
end Fn
namespace Fn
open PySem PySem.Spec L2 Dl Dg
section
variable {n : Nat} {p q : Rel} {T : Nat → Rel} {ks : List Nat}
end
end Fn
namespace Fn
open PySem PySem.Spec L2 Dl Dg
section
variable {n : Nat} {p q : Rel} {T : Nat → Rel} {ks : List Nat}
/-! ## repeated -/
theorem and_one {k : Nat} : Builtin.bitAnd (k : Int) 1 = ((k % 2 : Nat) : Int) := by
  unfold Builtin.bitAnd
  simp
theorem shr_one {k : Nat} : fShr (nA k) (.int 1) = some (nA (k / 2)) := by
  simp [fI]
theorem tru_one : (A.int 1).tru = some true := rfl
theorem tru_zero : (A.int 0).tru = some false := rfl
theorem rep_loop (h1 : 1 ≤ n) (h6 : n ≤ 6) {a : A} : ∀ (f : Nat) (c : Nat) (W P : Rel), c < 2 ^ f → ∃ (W' P' : Rel) (m : Nat), whileG Dt_Table_repeated_1 Dl_Table_repeated_1 m [fz a, fz (nA c), fz (tab n W), fz (tab n P)] = some (.nx, [fz a, fz (nA 0), fz (tab n W'), fz (tab n P')]) ∧ EqN n W' (mulR n W (powR n P c))
  | f, 0, W, P, _ => ⟨W, P, 1, by
      unfold whileG
      have t : Dt_Table_repeated_1 [fz a, fz (nA 0), fz (tab n W), fz (tab n P)] = some (false, [fz a, fz (nA 0), fz (tab n W), fz (tab n P)]) := by simp [Dt_Table_repeated_1]
      rw [t]; rfl, mul_one.symm⟩
  | 0, c + 1, _, _, h => by simp at h
  | f + 1, c + 1, W, P, h => by
    have t : Dt_Table_repeated_1 [fz a, fz (nA (c + 1)), fz (tab n W), fz (tab n P)] = some (true, [fz a, fz (nA (c + 1)), fz (tab n W), fz (tab n P)]) := by
      have : (0 : Int) < (c : Int) + 1 := by omega
      simp [Dt_Table_repeated_1, this]
    have hd : (c + 1) / 2 < 2 ^ f := by rw [Nat.pow_succ] at h; omega
    have sq := mul_ok (p := P) (q := P) h1 h6
    have wp := mul_ok (p := W) (q := P) h1 h6
    have ba := and_one (k := c + 1)
    have sh := shr_one (k := c + 1)
    by_cases od : (c + 1) % 2 = 1
    · obtain ⟨W', P', m, hw, he⟩ := rep_loop (a := a) h1 h6 f ((c + 1) / 2) (mulR n W P) (mulR n P P) hd
      refine ⟨W', P', m + 1, ?_, he.trans ?_⟩
      · have b : Dl_Table_repeated_1 [fz a, fz (nA (c + 1)), fz (tab n W), fz (tab n P)] = some (.nx, [fz a, fz (nA ((c + 1) / 2)), fz (tab n (mulR n W P)), fz (tab n (mulR n P P))]) := by
          rw [od] at ba
          generalize c + 1 = k at ba sh ⊢
          have sh' : fShr (.int (k : Int)) (.int 1) = some (nA (k / 2)) := sh
          generalize k / 2 = k2 at sh' ⊢
          simp [Dl_Table_repeated_1, tru_one, tru_zero, ba, sh', sq, wp]
        unfold whileG
        rw [t]
        simp only [Option.bind_some, if_true, b]
        exact hw
      · refine mul_assoc.trans (mulR_eqN EqN.refl ?_)
        refine (mulR_eqN EqN.refl pow_sq).trans ?_
        have e : c + 1 = 1 + 2 * ((c + 1) / 2) := by omega
        have := pow_add (n := n) (p := P) (i := 1) (j := 2 * ((c + 1) / 2))
        rw [← e] at this
        refine EqN.symm (this.trans (mulR_eqN ?_ EqN.refl))
        exact one_mul
    · obtain ⟨W', P', m, hw, he⟩ := rep_loop (a := a) h1 h6 f ((c + 1) / 2) W (mulR n P P) hd
      have ev : (c + 1) % 2 = 0 := by omega
      refine ⟨W', P', m + 1, ?_, he.trans ?_⟩
      · have b : Dl_Table_repeated_1 [fz a, fz (nA (c + 1)), fz (tab n W), fz (tab n P)] = some (.nx, [fz a, fz (nA ((c + 1) / 2)), fz (tab n W), fz (tab n (mulR n P P))]) := by
          rw [ev] at ba
          generalize c + 1 = k at ba sh ⊢
          have sh' : fShr (.int (k : Int)) (.int 1) = some (nA (k / 2)) := sh
          generalize k / 2 = k2 at sh' ⊢
          simp [Dl_Table_repeated_1, tru_one, tru_zero, ba, sh', sq]
        unfold whileG
        rw [t]
        simp only [Option.bind_some, if_true, b]
        exact hw
      · refine mulR_eqN EqN.refl ?_
        have e : c + 1 = 2 * ((c + 1) / 2) := by omega
        have := pow_sq (n := n) (p := P) (k := (c + 1) / 2)
        rw [← e] at this
        exact this
theorem repeated_ok {k : Nat} (h1 : 1 ≤ n) (h6 : n ≤ 6) : ∃ os, D_Table_repeated [fz (tab n p), fz (nA k)] = some (fz (tab n (powR n p k)), os) ∧ os = [fz (tab n p), fz (nA k)] := by
  obtain ⟨W', P', m, hw, he⟩ := rep_loop (a := tab n p) h1 h6 k k idR p (Nat.lt_two_pow_self)
  have id := identity_ok h1 h6
  have w := gWhile_of hw
  have e : tab n W' = tab n (powR n p k) := tab_eqN (he.trans one_mul)
  refine ⟨_, ?_, rfl⟩
  rw [← e]
  unfold D_Table_repeated
  rw [fnD_ev]
  unfold Db_Table_repeated
  have hk : ¬ (k : Int) < 0 := by omega
  have ra : okRa [1] [fz (tab n p), fz (nA k)] = true := rfl
  simp [hk, id, w, ra]
@[simp] theorem nmr_0 : ¬ (("repeated" : Str) = "size") := by decide +kernel
@[simp] theorem nmr_1 : ¬ (("repeated" : Str) = "_rows") := by decide +kernel
@[simp] theorem nmr_2 : ¬ (("repeated" : Str) = "_pairs") := by decide +kernel
/-! ## what a pattern leads to -/
end
end Fn
namespace Fn
open PySem PySem.Spec L2 Dl Dg
def sel (s c : Nat) : Bool := decide (s = 63) || decide (s = 42) || decide (s = c)
theorem in_sel {s c : Nat} : fInS false (cA s) (.lst [.str (S [63]), .str (S [42]), cA c]) = some (.bl (sel s c)) := by
  have e : fInS false (sA [s]) (.lst [.str (S [63]), .str (S [42]), sA [c]]) = some (.bl (inV (.str (S [s])) [.str (S [63]), .str (S [42]), .str (S [c])])) := rfl
  show fInS false (sA [s]) _ = _
  rw [show (cA c : A) = sA [c] from rfl, e]
  congr 2
  unfold sel
  by_cases h1 : s = 63 <;> by_cases h2 : s = 42 <;> by_cases h3 : s = c <;> simp [inV, eqV_S, h1, h2, h3, eq_comm] <;> simp_all
section
variable {n : Nat} {p q : Rel} {T : Nat → Rel} {ls : List Nat}
theorem small_nodup {l : List Nat} (nd : l.Nodup) (h : ∀ x ∈ l, x < n) : l.length ≤ n := by
  have := nodup_le2 nd (k := List.range n) fun x m => List.mem_range.mpr (h x m)
  simpa using this
structure Ok (n : Nat) (l : List Nat) : Prop where
  nd : l.Nodup
  lt : ∀ x ∈ l, x < n
theorem Ok.add {l m : List Nat} (h : Ok n l) (hm : m.Nodup) (lm : ∀ x ∈ m, x < n) : Ok n (l ++ m.filter fun x => !decide (x ∈ l)) := by
  refine ⟨List.nodup_append.mpr ⟨h.nd, hm.sublist List.filter_sublist, fun x mx y my e => ?_⟩, fun x mx => ?_⟩
  · subst e
    have := (List.mem_filter.mp my).2
    simp [mx] at this
  · rcases List.mem_append.mp mx with z | z
    · exact h.lt x z
    · exact lm x (List.mem_filter.mp z).1
theorem mem_add {l m : List Nat} {o : Nat} : (o ∈ l ++ m.filter fun x => !decide (x ∈ l)) ↔ o ∈ l ∨ o ∈ m := by
  by_cases h : o ∈ l <;> simp [h]
theorem rowN_nodup {f : Nat → Bool} : (rowN n f).Nodup := List.nodup_range.sublist List.filter_sublist
theorem com1_ok {w c : Nat} {l : List Nat} {s1 s2 s3 s4 s5 s6 : O} (hc : c ∈ ls) (hw : w < n) (h6 : n ≤ 6) : Dc__law_comes_1 [fz (ownA n T ls), s1, s2, s3, s4, s5, s6, fz (nL l), fz (cA c), fz (nA w), .un] = some (.ow (ow (((rowN n (T c w)).filter fun x => !decide (x ∈ l)).map nA)), [fz (ownA n T ls), s1, s2, s3, s4, s5, s6, fz (nL l), fz (cA c), fz (nA w), .un]) := by
  unfold Dc__law_comes_1
  have g := fGet_c (f := fun c => LL (rowsN n (T c))) hc
  have ix : ((rowsN n (T c)).map nL)[w]? = some (nL (rowN n (T c w))) := by rw [List.getElem?_map, rowsN_at hw]; rfl
  refine gComp_map nA _ nA (by simp [g, ix]) (by simp [offE]) (fun o m => ?_) (sz (Nat.le_trans rowN_len (by omega)))
  by_cases z : o ∈ l <;> simp [cstep, z]

abbrev E43 (A : A) (p a : O) (W : List Nat) (s : Nat) (s5 s6 : O) (l : List Nat) (s8 s9 : O) : Dl.Env := [fz A, p, a, fz (nL W), fz (cA s), s5, s6, fz (nL l), s8, s9, .un]
/-- the words behind the words of W through one person -/
theorem lp1_ok {c s : Nat} {W l : List Nat} {p a s5 s6 s9 : O} (hc : c ∈ ls) (hW : ∀ w ∈ W, w < n) (h6 : n ≤ 6) (ok : Ok n l) : ∃ (l' : List Nat) (s9' : O), Ok n l' ∧ (∀ o, o ∈ l' ↔ o ∈ l ∨ ∃ w ∈ W, o < n ∧ T c w o = true) ∧
    loopG (hName 9) Dl__law_comes_1 (W.map nA) (E43 (ownA n T ls) p a W s s5 s6 l (fz (cA c)) s9) = some (.nx, E43 (ownA n T ls) p a W s s5 s6 l' (fz (cA c)) s9') := by
  obtain ⟨e', lp, l', s9', rfl, ok', hm⟩ := loopG_ix (h := hName 9) (b := Dl__law_comes_1) (env := E43 (ownA n T ls) p a W s s5 s6 l (fz (cA c)) s9) nA W
    (fun i env => ∃ (l' : List Nat) (s9' : O), env = E43 (ownA n T ls) p a W s s5 s6 l' (fz (cA c)) s9' ∧ Ok n l' ∧ ∀ o, o ∈ l' ↔ o ∈ l ∨ ∃ w ∈ W.take i, o < n ∧ T c w o = true)
    (by
      rintro i env hi ⟨l', s9', rfl, ok', hm⟩
      have hw := hW _ (List.getElem_mem hi)
      have ok2 := ok'.add (m := rowN n (T c W[i])) rowN_nodup fun x m => (mem_rowN.mp m).1
      have hm2 : ∀ o, o ∈ l' ++ ((rowN n (T c W[i])).filter fun x => !decide (x ∈ l')) ↔ o ∈ l ∨ ∃ w ∈ W.take (i + 1), o < n ∧ T c w o = true := fun o => by
        rw [mem_add, hm o, mem_rowN, List.take_add_one, List.getElem?_eq_getElem hi]
        constructor
        · rintro ((h | ⟨w, m, h⟩) | h)
          · exact .inl h
          · exact .inr ⟨w, List.mem_append_left _ m, h⟩
          · exact .inr ⟨W[i], List.mem_append_right _ (by simp), h⟩
        · rintro (h | ⟨w, m, h⟩)
          · exact .inl (.inl h)
          · rcases List.mem_append.mp m with z | z
            · exact .inl (.inr ⟨w, z, h⟩)
            · have : w = W[i] := by simpa using z
              subst this; exact .inr h
      have c1 := com1_ok (n := n) (T := T) (ls := ls) (w := W[i]) (c := c) (l := l') (s1 := p) (s2 := a) (s3 := fz (nL W)) (s4 := fz (cA s)) (s5 := s5) (s6 := s6) hc hw h6
      have z1 : l'.length + ((rowN n (T c W[i])).filter fun x => !decide (x ∈ l')).length ≤ sizeLine := sz (by have := small_nodup ok2.nd ok2.lt; rw [List.length_append] at this; omega)
      generalize ((rowN n (T c W[i])).filter fun x => !decide (x ∈ l')) = m2 at *
      refine ⟨E43 (ownA n T ls) p a W s s5 s6 l' (fz (cA c)) (fz (nA W[i])), E43 (ownA n T ls) p a W s s5 s6 (l' ++ m2) (fz (cA c)) (fz (nA W[i])), rfl, ?_, _, _, rfl, ok2, hm2⟩
      simp [Dl__law_comes_1, c1, z1])
    ⟨l, s9, rfl, ok, fun o => by simp⟩
  rw [List.take_length] at hm
  exact ⟨l', s9', ok', hm, lp⟩
/-- .. through the people whom a sign stands for -/
theorem lp2_ok {s : Nat} {W : List Nat} {p a s5 s6 s8 s9 : O} (hW : ∀ w ∈ W, w < n) (lW : W.length ≤ 1000000) (h6 : n ≤ 6) : ∃ (l' : List Nat) (s8' s9' : O), Ok n l' ∧ (∀ o, o ∈ l' ↔ ∃ c ∈ ls, sel s c = true ∧ ∃ w ∈ W, o < n ∧ T c w o = true) ∧
    loopG (hName 8) Dl__law_comes_2 (ls.map cA) (E43 (ownA n T ls) p a W s s5 s6 [] s8 s9) = some (.nx, E43 (ownA n T ls) p a W s s5 s6 l' s8' s9') := by
  obtain ⟨e', lp, l', s8', s9', rfl, ok', hm⟩ := loopG_ix (h := hName 8) (b := Dl__law_comes_2) (env := E43 (ownA n T ls) p a W s s5 s6 [] s8 s9) cA ls
    (fun i env => ∃ (l' : List Nat) (s8' s9' : O), env = E43 (ownA n T ls) p a W s s5 s6 l' s8' s9' ∧ Ok n l' ∧ ∀ o, o ∈ l' ↔ ∃ c ∈ ls.take i, sel s c = true ∧ ∃ w ∈ W, o < n ∧ T c w o = true)
    (by
      rintro i env hi ⟨l', s8', s9', rfl, ok', hm⟩
      have hc := List.getElem_mem hi
      have tk : ∀ d, d ∈ ls.take (i + 1) ↔ d ∈ ls.take i ∨ d = ls[i] := fun d => by
        rw [List.take_add_one, List.getElem?_eq_getElem hi, List.mem_append]; simp
      obtain ⟨l2, s92, ok2, hm2, lp2⟩ := lp1_ok (n := n) (T := T) (ls := ls) (c := ls[i]) (s := s) (W := W) (l := l') (p := p) (a := a) (s5 := s5) (s6 := s6) (s9 := s9') hc hW h6 ok'
      have is := in_sel (s := s) (c := ls[i])
      have l3 : (3 : Nat) ≤ sizeLine := sz (by decide)
      by_cases hs : sel s ls[i] = true
      · have hm3 : ∀ o, o ∈ l2 ↔ ∃ c ∈ ls.take (i + 1), sel s c = true ∧ ∃ w ∈ W, o < n ∧ T c w o = true := fun o => by
          rw [hm2 o, hm o]
          constructor
          · rintro (⟨c, m, h⟩ | h)
            · exact ⟨c, (tk c).mpr (.inl m), h⟩
            · exact ⟨ls[i], (tk _).mpr (.inr rfl), hs, h⟩
          · rintro ⟨c, m, h1, h2⟩
            rcases (tk c).mp m with z | z
            · exact .inl ⟨c, z, h1, h2⟩
            · subst z; exact .inr h2
        generalize ls[i] = c at *
        rw [hs] at is
        refine ⟨E43 (ownA n T ls) p a W s s5 s6 l' (fz (cA c)) s9', E43 (ownA n T ls) p a W s s5 s6 l2 (fz (cA c)) s92, rfl, ?_, _, _, _, rfl, ok2, hm3⟩
        simp [Dl__law_comes_2, s42, s63, l3, is, lp2]
      · have hm3 : ∀ o, o ∈ l' ↔ ∃ c ∈ ls.take (i + 1), sel s c = true ∧ ∃ w ∈ W, o < n ∧ T c w o = true := fun o => by
          rw [hm o]
          constructor
          · rintro ⟨c, m, h⟩
            exact ⟨c, (tk c).mpr (.inl m), h⟩
          · rintro ⟨c, m, h1, h2⟩
            rcases (tk c).mp m with z | z
            · exact ⟨c, z, h1, h2⟩
            · subst z; exact (hs h1).elim
        generalize ls[i] = c at *
        rw [Bool.not_eq_true] at hs
        rw [hs] at is
        refine ⟨E43 (ownA n T ls) p a W s s5 s6 l' (fz (cA c)) s9', E43 (ownA n T ls) p a W s s5 s6 l' (fz (cA c)) s9', rfl, ?_, _, _, _, rfl, ok', hm3⟩
        simp [Dl__law_comes_2, s42, s63, l3, is])
    ⟨[], s8, s9, rfl, ⟨by simp, by simp⟩, fun o => by simp⟩
  rw [List.take_length] at hm
  exact ⟨l', s8', s9', ok', hm, lp⟩
/-- what a turn makes of the words -/
def Turn (n : Nat) (ls : List Nat) (T : Nat → Rel) (s : Nat) (W W' : List Nat) : Prop := ∀ o, o ∈ W' ↔ (s = 42 ∧ o ∈ W) ∨ ∃ c ∈ ls, sel s c = true ∧ ∃ w ∈ W, o < n ∧ T c w o = true
theorem turn_ok {s : Nat} {W : List Nat} {p a s5 s6 s7 s8 s9 : O} (ok : Ok n W) (h6 : n ≤ 6) : ∃ (W' : List Nat) (s7' s8' s9' : O), Ok n W' ∧ Turn n ls T s W W' ∧
    Dl__law_comes_3 [fz (ownA n T ls), p, a, fz (nL W), fz (cA s), s5, s6, s7, s8, s9, .un] = some (.nx, [fz (ownA n T ls), p, a, fz (nL W'), fz (cA s), s5, s6, s7', s8', s9', .un]) := by
  have lW := small_nodup ok.nd ok.lt
  obtain ⟨l', s8', s9', ok', hm, lp⟩ := lp2_ok (n := n) (T := T) (ls := ls) (s := s) (W := W) (p := p) (a := a) (s5 := s5) (s6 := s6) (s8 := s8) (s9 := s9) ok.lt (by omega) h6
  have lp : loopG (hName 8) Dl__law_comes_2 (ls.map cA) [fz (ownA n T ls), p, a, fz (nL W), fz (cA s), s5, s6, fz (.lst []), s8, s9, .un] = some (.nx, E43 (ownA n T ls) p a W s s5 s6 l' s8' s9') := lp
  by_cases c : s = 42
  · subst c
    have ok2 := ok.add ok'.nd ok'.lt
    have c2 : ∀ s8 s9, Dc__law_comes_2 [fz (ownA n T ls), p, a, fz (nL W), fz (cA 42), s5, s6, fz (nL l'), s8, s9, .un] = some (.ow (ow ((l'.filter fun x => !decide (x ∈ W)).map nA)), [fz (ownA n T ls), p, a, fz (nL W), fz (cA 42), s5, s6, fz (nL l'), s8, s9, .un]) := fun s8 s9 => by
      unfold Dc__law_comes_2
      refine gComp_map nA _ nA (by simp) (by simp [offE]) (fun o m => ?_) (sz (by have := small_nodup ok'.nd ok'.lt; omega))
      by_cases z : o ∈ W <;> simp [cstep, z]
    have z1 : W.length + (l'.filter fun x => !decide (x ∈ W)).length ≤ sizeLine := sz (by have := small_nodup ok2.nd ok2.lt; rw [List.length_append] at this; omega)
    have tn : Turn n ls T 42 W (W ++ l'.filter fun x => !decide (x ∈ W)) := fun o => by rw [mem_add, hm o]; simp
    generalize (l'.filter fun x => !decide (x ∈ W)) = m2 at *
    refine ⟨W ++ m2, fz (nL (W ++ m2)), s8', s9', ok2, tn, ?_⟩
    simp [Dl__law_comes_3, keys_cc, kc_eq, lp, s42, c2, z1]
  · have q : ¬ S [s] = S [42] := fun z => c (by simpa using S_inj.mp z)
    refine ⟨l', fz (nL l'), s8', s9', ok', fun o => by rw [hm o]; simp [c], ?_⟩
    simp [Dl__law_comes_3, keys_cc, kc_eq, lp, s42, c]

end
end Fn
namespace Fn
open PySem PySem.Spec L2 Dl Dg
section
variable {n : Nat} {T : Nat → Rel} {ls : List Nat} {p q : Rel}
theorem snoc_ind {P : List Nat → Prop} (h0 : P []) (hs : ∀ l c, P l → P (l ++ [c])) (l : List Nat) : P l := by
  have : ∀ m : List Nat, P m.reverse := fun m => by
    induction m with
    | nil => exact h0
    | cons c m ih => rw [List.reverse_cons]; exact hs _ _ ih
  have := this l.reverse
  rwa [List.reverse_reverse] at this
end
end Fn
namespace Fn
open PySem PySem.Spec L2 Dl Dg
section
variable {n : Nat} {T : Nat → Rel} {ls : List Nat} {p q : Rel}
end
end Fn
namespace Fn
open PySem PySem.Spec L2 Dl Dg
/-! ## choices of places: ascending lists of numbers below m -/
structure Inc (m : Nat) (x : List Nat) : Prop where
  up : x.Pairwise (· < ·)
  lt : ∀ a ∈ x, a < m
theorem Inc.nil {m : Nat} : Inc m [] := ⟨.nil, fun _ h => nomatch h⟩
theorem Inc.len {m : Nat} {x : List Nat} (h : Inc m x) : x.length ≤ m := by
  have := nodup_le2 (l := x) (k := List.range m) (h.up.imp fun h => Nat.ne_of_lt h) fun a ma => List.mem_range.mpr (h.lt a ma)
  simpa using this
theorem Inc.mono {m k : Nat} {x : List Nat} (h : Inc m x) (l : m ≤ k) : Inc k x := ⟨h.up, fun a ma => Nat.lt_of_lt_of_le (h.lt a ma) l⟩
/-- one more -/
def okAt (c : List Nat) (a : Nat) : Bool := c.isEmpty || decide (c.getLastD 0 < a)
/-! ### the order: shorter ones first, then list by list -/
def lexN : List Nat → List Nat → Bool
  | [], [] => false
  | [], _ :: _ => true
  | _ :: _, [] => false
  | x :: xs, y :: ys => if x = y then lexN xs ys else decide (x < y)
theorem lexN_trans : ∀ {x y z : List Nat}, lexN x y = true → lexN y z = true → lexN x z = true
  | [], [], _, h, _ => nomatch h
  | [], _ :: _, [], _, k => nomatch k
  | [], _ :: _, _ :: _, _, _ => rfl
  | _ :: _, [], _, h, _ => nomatch h
  | _ :: _, _ :: _, [], _, k => nomatch k
  | a :: x, b :: y, c :: z, h, k => by
    simp only [lexN] at h k ⊢
    by_cases e : a = b
    · subst e
      rw [if_pos rfl] at h
      by_cases e2 : a = c
      · subst e2
        rw [if_pos rfl] at k ⊢
        exact lexN_trans h k
      · rw [if_neg e2] at k ⊢; exact k
    · rw [if_neg e] at h
      have h := of_decide_eq_true h
      by_cases e2 : b = c
      · subst e2
        rw [if_neg e]; exact decide_eq_true h
      · rw [if_neg e2] at k
        have k := of_decide_eq_true k
        rw [if_neg (by omega)]; exact decide_eq_true (by omega)
theorem lexN_snoc : ∀ {x y : List Nat} {a b : Nat}, x.length = y.length → lexN x y = true → lexN (x ++ [a]) (y ++ [b]) = true
  | [], [], _, _, _, h => nomatch h
  | [], _ :: _, _, _, l, _ => nomatch l
  | _ :: _, [], _, _, l, _ => nomatch l
  | c :: x, d :: y, a, b, l, h => by
    simp only [List.cons_append, lexN] at h ⊢
    by_cases e : c = d
    · subst e
      rw [if_pos rfl] at h ⊢
      exact lexN_snoc (by simpa using l) h
    · rw [if_neg e] at h ⊢; exact h
theorem lexN_same : ∀ {x : List Nat} {a b : Nat}, a < b → lexN (x ++ [a]) (x ++ [b]) = true
  | [], a, b, h => by simp [lexN]; omega
  | c :: x, a, b, h => by simp only [List.cons_append, lexN, if_true]; exact lexN_same h
def lenLex (x y : List Nat) : Prop := x.length < y.length ∨ x.length = y.length ∧ lexN x y = true
theorem lenLex_trans {x y z : List Nat} (h : lenLex x y) (k : lenLex y z) : lenLex x z := by
  rcases h with h | ⟨h1, h2⟩ <;> rcases k with k | ⟨k1, k2⟩
  · exact .inl (by omega)
  · exact .inl (by omega)
  · exact .inl (by omega)
  · exact .inr ⟨by omega, lexN_trans h2 k2⟩
end Fn
namespace Fn
open PySem PySem.Spec L2 Dl Dg
@[simp] theorem tru_l {xs : List A} : (A.lst xs).tru = some (!xs.isEmpty) := (rfl)
section
variable {n m : Nat} {T : Nat → Rel} {ls ks : List Nat} {p q : Rel}
/-! the law's own choices -/
end
end Fn
namespace Fn
open PySem PySem.Spec L2 Dl Dg
/-- what is left of a row -/
def rest (row P : List Nat) : List Nat := ((List.range row.length).filter fun i => !decide (i ∈ P)).map fun i => row.getD i 0
section
variable {n m : Nat} {T : Nat → Rel} {ls ks : List Nat} {p q : Rel}
@[simp] theorem isN_ev {a : A} : fIsN a .non = some (.bl a.isN) := (rfl)
@[simp] theorem notN_ev {a : A} : fNotN a .non = some (.bl (!a.isN)) := (rfl)
/-- the law's way -/
def mb (n : Nat) (p : Rel) (a b : Nat) : Bool := decide (a < b) && (List.range n).any fun o => p a o && p b o
/-! ## the first choice for which words melt -/
end
end Fn
namespace Fn
open PySem PySem.Spec L2 Dl Dg
section
variable {n : Nat} {ls ks : List Nat} {T : Nat → Rel} {p : Rel}
/-! what both words can become -/
def both (n : Nat) (T : Nat → Rel) (u v : Nat) (l : List Nat) : List Nat := rowN n fun o => thrR n T l u o && thrR n T l v o
/-! the program's common_outs -/
end
end Fn
namespace Fn
open PySem PySem.Spec L2 Dl Dg
section
variable {n m : Nat} {T : Nat → Rel} {ls ks : List Nat} {p q : Rel}
end
end Fn
namespace Fn
open PySem PySem.Spec L2 Dl Dg
@[simp] theorem pReverse_lst {xs : List A} : pReverse (.lst xs) [] = some (.lst xs.reverse, .non) := (rfl)
section
variable {n m : Nat} {T : Nat → Rel} {ls ks : List Nat} {p q : Rel}
@[simp] theorem fEqDk_ev {k : List Key} {xs : List A} : fEqDk (.dK k xs) (.dK [] []) = some (.bl k.isEmpty) := (rfl)
end
end Fn
namespace Fn
open PySem PySem.Spec L2 Dl Dg
@[simp] theorem tru_lst {xs : List A} : (A.lst xs).tru = some (!xs.isEmpty) := (rfl)
section
variable {n : Nat} {ls ks : List Nat} {T : Nat → Rel} {p : Rel}
/-! errors -/
end
end Fn
namespace Fn
open PySem PySem.Spec L2 Dl Dg
/-! ## the law's own search: the best choice so far -/
section
variable {n m : Nat} {T : Nat → Rel} {ls ks : List Nat} {p q : Rel}
end
end Fn
namespace Fn
open PySem PySem.Spec L2 Dl Dg
section
variable {n m : Nat} {T : Nat → Rel} {ls ks : List Nat} {p q : Rel}
end
end Fn
namespace Fn
open PySem PySem.Spec L2 Dl Dg
/-! ## texts -/
def jn (sep : List Nat) : List (List Nat) → List Nat
  | [] => []
  | [x] => x
  | x :: y :: r => x ++ (sep ++ jn sep (y :: r))
theorem jn_cons2 {sep x y : List Nat} {r : List (List Nat)} : jn sep (x :: y :: r) = x ++ (sep ++ jn sep (y :: r)) := rfl
theorem join_S {sep : List Nat} : ∀ {l : List (List Nat)}, Str.join (S sep) (l.map fun x => S x) = S (jn sep l)
  | [] => rfl
  | [x] => rfl
  | x :: y :: r => by
    have ih := join_S (sep := sep) (l := y :: r)
    show S x ++ S sep ++ Str.join (S sep) ((y :: r).map fun c => S c) = _
    rw [ih, jn_cons2]
    simp
theorem strs_S : ∀ {l : List (List Nat)}, strs? (l.map sA) = some (l.map fun x => S x)
  | [] => rfl
  | c :: l => by
    rw [List.map_cons, List.map_cons]
    show (strs? (l.map sA)).map _ = _
    rw [strs_S]; rfl
theorem lens_S : ∀ {l : List (List Nat)}, (l.map fun x => S x).map (·.length) = l.map List.length
  | [] => rfl
  | x :: l => by rw [List.map_cons, List.map_cons, List.map_cons, lens_S]; rfl
theorem mJoin_S {sep : List Nat} {l : List (List Nat)} (h : (l.map List.length).sum + l.length * sep.length ≤ 1000000) : mJoin (S sep) [.lst (l.map sA)] = some (sA (jn sep l)) := by
  show (strs? (l.map sA)).bind _ = _
  rw [strs_S, Option.bind_some, if_pos]
  · rw [TL.join_eq, join_S]
  · rw [lens_S, List.length_map]
    show _ + _ * sep.length ≤ _
    omega
def dg (d : Nat) : List Nat := [48 + d]
theorem str_dig {d : Nat} (h : d < 6) : ((toString (d : Int) : String) : Str) = S (dg d) := by
  match d, h with
  | 0, _ => decide +kernel
  | 1, _ => decide +kernel
  | 2, _ => decide +kernel
  | 3, _ => decide +kernel
  | 4, _ => decide +kernel
  | 5, _ => decide +kernel
/-! one line apart from another -/
theorem cut1 {s : Nat} : ∀ {x y t u : List Nat}, s ∉ x → s ∉ y → x ++ s :: t = y ++ s :: u → x = y ∧ t = u
  | [], [], t, u, _, _, e => ⟨rfl, by simpa using e⟩
  | [], b :: y, t, u, _, h, e => by simp at e; exact (h (by rw [e.1]; exact List.mem_cons_self)).elim
  | a :: x, [], t, u, h, _, e => by simp at e; exact (h (by rw [← e.1]; exact List.mem_cons_self)).elim
  | a :: x, b :: y, t, u, h, g, e => by
    simp only [List.cons_append, List.cons.injEq] at e
    obtain ⟨e1, e2⟩ := cut1 (fun z => h (List.mem_cons_of_mem _ z)) (fun z => g (List.mem_cons_of_mem _ z)) e.2
    exact ⟨by rw [e.1, e1], e2⟩
theorem jn_inj {s : Nat} : ∀ {xs ys : List (List Nat)}, xs ≠ [] → ys ≠ [] → (∀ x ∈ xs, s ∉ x) → (∀ y ∈ ys, s ∉ y) → jn [s] xs = jn [s] ys → xs = ys
  | [], _, h, _, _, _, _ => (h rfl).elim
  | _ :: _, [], _, h, _, _, _ => (h rfl).elim
  | [x], [y], _, _, _, _, e => by rw [show x = y from e]
  | [x], y :: y2 :: r, _, _, hx, _, e => by
    have e : x = y ++ s :: jn [s] (y2 :: r) := e
    exact (hx x List.mem_cons_self (by rw [e]; exact List.mem_append_right _ List.mem_cons_self)).elim
  | x :: x2 :: r, [y], _, _, _, hy, e => by
    have e : x ++ s :: jn [s] (x2 :: r) = y := e
    exact (hy y List.mem_cons_self (by rw [← e]; exact List.mem_append_right _ List.mem_cons_self)).elim
  | x :: x2 :: r, y :: y2 :: q, _, _, hx, hy, e => by
    have e : x ++ s :: jn [s] (x2 :: r) = y ++ s :: jn [s] (y2 :: q) := e
    obtain ⟨e1, e2⟩ := cut1 (hx x List.mem_cons_self) (hy y List.mem_cons_self) e
    rw [e1, jn_inj (xs := x2 :: r) (ys := y2 :: q) (List.cons_ne_nil _ _) (List.cons_ne_nil _ _) (fun z m => hx z (List.mem_cons_of_mem _ m)) (fun z m => hy z (List.mem_cons_of_mem _ m)) e2]
/-! the law's texts of rows -/
def inT (r : List Nat) : List Nat := jn [44, 32] (r.map dg)
def rowT (r : List Nat) : List Nat := 91 :: (inT r ++ [93])
def rowsT (R : List (List Nat)) : List Nat := 91 :: (jn [44, 32] (R.map rowT) ++ [93])
theorem inT_2 {a b : Nat} {r : List Nat} : inT (a :: b :: r) = (48 + a) :: 44 :: 32 :: inT (b :: r) := rfl
theorem inT_mem : ∀ {r : List Nat} {c : Nat}, c ∈ inT r → c ∈ r.map (48 + ·) ∨ c = 44 ∨ c = 32
  | [], c, h => by simp [inT, jn] at h
  | [a], c, h => .inl (by simpa [inT, jn, dg] using h)
  | a :: b :: r, c, h => by
    rw [inT_2] at h
    simp only [List.mem_cons] at h
    rcases h with h | h | h | h
    · exact .inl (by rw [h]; simp)
    · exact .inr (.inl h)
    · exact .inr (.inr h)
    · rcases inT_mem (r := b :: r) h with z | z
      · exact .inl (List.mem_cons_of_mem _ z)
      · exact .inr z
theorem inT_93 {r : List Nat} (h : ∀ x ∈ r, x < 6) : 93 ∉ inT r := fun z => by
  rcases inT_mem z with z | z | z
  · obtain ⟨x, m, e⟩ := List.mem_map.mp z
    have := h x m
    omega
  · omega
  · omega
theorem inT_inj : ∀ {r q : List Nat}, inT r = inT q → r = q
  | [], [], _ => rfl
  | [], [b], e => by simp [inT, jn, dg] at e
  | [], b :: c :: q, e => by rw [inT_2] at e; simp [inT, jn] at e
  | [a], [], e => by simp [inT, jn, dg] at e
  | [a], [b], e => by
    have : 48 + a = 48 + b := by simpa [inT, jn, dg] using e
    rw [show a = b by omega]
  | [a], b :: c :: q, e => by rw [inT_2] at e; simp [inT, jn, dg] at e
  | a :: c :: r, [], e => by rw [inT_2] at e; simp [inT, jn] at e
  | a :: c :: r, [b], e => by rw [inT_2] at e; simp [inT, jn, dg] at e
  | a :: c :: r, b :: d :: q, e => by
    rw [inT_2, inT_2] at e
    simp only [List.cons.injEq, true_and] at e
    have ih := inT_inj (r := c :: r) (q := d :: q) e.2
    rw [ih, show a = b by omega]
def tlT (sep : List Nat) : List (List Nat) → List Nat
  | [] => []
  | y :: r => sep ++ jn sep (y :: r)
theorem jn_tl {sep x : List Nat} : ∀ {r : List (List Nat)}, jn sep (x :: r) = x ++ tlT sep r
  | [] => by simp [jn, tlT]
  | y :: r => rfl
theorem rowsT_inj0 : ∀ {R Q : List (List Nat)}, (∀ r ∈ R, ∀ x ∈ r, x < 6) → (∀ r ∈ Q, ∀ x ∈ r, x < 6) → jn [44, 32] (R.map rowT) = jn [44, 32] (Q.map rowT) → R = Q
  | [], [], _, _, _ => rfl
  | [], q :: Q, _, _, e => by rw [List.map_cons, jn_tl] at e; simp [jn, rowT] at e
  | r :: R, [], _, _, e => by rw [List.map_cons, jn_tl] at e; simp [jn, rowT] at e
  | r :: R, q :: Q, hr, hq, e => by
    rw [List.map_cons, List.map_cons, jn_tl, jn_tl] at e
    have e : 91 :: (inT r ++ [93]) ++ tlT [44, 32] (R.map rowT) = 91 :: (inT q ++ [93]) ++ tlT [44, 32] (Q.map rowT) := e
    simp only [List.cons_append, List.append_assoc, List.cons.injEq, true_and, List.nil_append] at e
    obtain ⟨e1, e2⟩ := cut1 (inT_93 (hr r List.mem_cons_self)) (inT_93 (hq q List.mem_cons_self)) e
    have e3 : R = Q := by
      cases R with
      | nil =>
        cases Q with
        | nil => rfl
        | cons q2 Q => simp [tlT] at e2
      | cons r2 R =>
        cases Q with
        | nil => simp [tlT] at e2
        | cons q2 Q =>
          have e2 : 44 :: 32 :: jn [44, 32] ((r2 :: R).map rowT) = 44 :: 32 :: jn [44, 32] ((q2 :: Q).map rowT) := e2
          simp only [List.cons.injEq, true_and] at e2
          exact rowsT_inj0 (fun z m => hr z (List.mem_cons_of_mem _ m)) (fun z m => hq z (List.mem_cons_of_mem _ m)) e2
    rw [inT_inj e1, e3]
theorem rowsT_inj {R Q : List (List Nat)} (hr : ∀ r ∈ R, ∀ x ∈ r, x < 6) (hq : ∀ r ∈ Q, ∀ x ∈ r, x < 6) (e : rowsT R = rowsT Q) : R = Q := by
  unfold rowsT at e
  simp only [List.cons.injEq, true_and] at e
  exact rowsT_inj0 hr hq (List.append_cancel_right e)
theorem inT_len : ∀ {r : List Nat}, (inT r).length ≤ 3 * r.length
  | [] => Nat.le_refl _
  | [a] => by simp [inT, jn, dg]
  | a :: b :: r => by
    have := inT_len (r := b :: r)
    rw [inT_2]
    simp only [List.length_cons] at this ⊢
    omega
theorem jn_len {sep : List Nat} : ∀ {l : List (List Nat)}, (jn sep l).length ≤ (l.map List.length).sum + l.length * sep.length
  | [] => by simp [jn]
  | [x] => by simp [jn]
  | x :: y :: r => by
    have := jn_len (sep := sep) (l := y :: r)
    rw [jn_cons2]
    simp only [List.length_append, List.map_cons, List.sum_cons, List.length_cons, Nat.add_mul] at this ⊢
    omega
theorem shown_in {r : List Nat} (h : ∀ x ∈ r, x < 6) : Str.join (", " : Str) (PyData.shownAll (r.map fun x : Nat => PyData.int (x : Int))) = S (inT r) := by
  have e : (r.map fun x : Nat => PyData.int (x : Int)) = (r.map fun x : Nat => (x : Int)).map PyData.int := by rw [List.map_map]; rfl
  have e2 : (", " : Str) = S [44, 32] := by decide +kernel
  rw [e, PyData.shownAll_ints, e2, List.map_map, show (r.map ((fun n : Int => ((toString n : String) : Str)) ∘ fun x : Nat => (x : Int))) = (r.map dg).map fun x => S x by
    rw [List.map_map]
    exact List.map_congr_left fun x m => str_dig (h x m), join_S]
  rfl
theorem shown_rows {R : List (List Nat)} (h : ∀ r ∈ R, ∀ x ∈ r, x < 6) : (PyData.list (R.map fun r => PyData.list (r.map fun x : Nat => PyData.int (x : Int)))).shown = S (rowsT R) := by
  have e2 : (", " : Str) = S [44, 32] := by decide +kernel
  have e3 : ("[" : Str) = S [91] := by decide +kernel
  have e4 : ("]" : Str) = S [93] := by decide +kernel
  have all : ∀ {Q : List (List Nat)}, (∀ r ∈ Q, ∀ x ∈ r, x < 6) → PyData.shownAll (Q.map fun r => PyData.list (r.map fun x : Nat => PyData.int (x : Int))) = (Q.map rowT).map fun x => S x := fun {Q} => by
    induction Q with
    | nil => intro _; simp only [List.map_nil, PyData.shownAll_nil]
    | cons r Q ih =>
      intro h
      rw [List.map_cons, PyData.shownAll_cons, ih fun z m => h z (List.mem_cons_of_mem _ m), PyData.shown_list, shown_in (h r List.mem_cons_self), e3, e4]
      simp [rowT]
  rw [PyData.shown_list, all h, e2, join_S, e3, e4]
  simp [rowsT]
end Fn
namespace Fn
open PySem PySem.Spec L2 Dl Dg
/-! ## the texts of rows and of tables -/
section
variable {env : Dl.Env}
@[simp] theorem gOrT2_ev {g h : G} : gOrT2 g h env = (gT g env).ob fun p => (p.1.vw p.2).ob fun a => a.tru.ob fun b => if b then some p else h p.2 := (rfl)
@[simp] theorem gMs_ev {f : Str → List A → Option A} {g : G} {ga : Dl.Env → Option (List A × Dl.Env)} : gMs f g ga env = (gOne g env).ob fun p => p.1.str?.ob fun z => (ga p.2).ob fun q => (f z q.1).om fun c => (.fz c, q.2) := (rfl)
@[simp] theorem fFmt_s {y : Str} : fFmt (.str y) = if y.length ≤ sizeLine then some (.str y) else none := (rfl)
@[simp] theorem fFmt_i {i : Int} : fFmt (.int i) = if i.natAbs.log2 < 1920 then some (.str (toString i)) else none := (rfl)
@[simp] theorem fStrI_i {i : Int} : fStrI (.int i) = if i.natAbs.log2 < 1920 then some (.str (toString i)) else none := (rfl)
def joinK (gs : List G) (acc : Str) : R × Dl.Env → Option (Str × Dl.Env)
  | (.fz (.str y), e) => if (acc ++ y).length ≤ sizeLine then joinG gs (acc ++ y) e else none
  | _ => none
@[simp] theorem joinG_nil {acc : Str} : joinG [] acc env = some (acc, env) := (rfl)
@[simp] theorem joinG_cons {g : G} {gs : List G} {acc : Str} : joinG (g :: gs) acc env = (g env).ob (joinK gs acc) := by
  show (g env).bind _ = (g env).bind _
  congr 1
  funext ⟨r, e⟩
  cases r with
  | fz a => cases a <;> rfl
  | _ => rfl
@[simp] theorem joinK_s {gs : List G} {acc y : Str} {e : Dl.Env} : joinK gs acc (.fz (.str y), e) = if (acc ++ y).length ≤ sizeLine then joinG gs (acc ++ y) e else none := (rfl)
@[simp] theorem gJoined_ev {gs : List G} : gJoined gs env = (joinG gs (S []) env).om fun p => (.fz (.str p.1), p.2) := (rfl)
end
@[simp] theorem dg_len {d : Nat} : (dg d).length = 1 := (rfl)
theorem log_dig {d : Nat} (h : d < 6) : d.log2 < 1920 := log_small (by omega)
theorem repr_dig {d : Nat} (h : d < 6) : Str.ofString ((d : Int).repr) = S (dg d) := str_dig h
theorem tru_S {l : List Nat} (h : l.length ≤ 1000000) : (sA l).tru = some (!l.isEmpty) := by
  show (if (S l).length ≤ sizeLine then some (((S l).length : Int) != 0) else none) = _
  rw [S_len, if_pos (sz h)]
  cases l with
  | nil => rfl
  | cons a l => 
    simp
    omega
/-! ### a table's text -/
def enT (p : Rel) (n a : Nat) : List Nat := dg a ++ 62 :: (if rowN n (p a) = [] then [45] else jn [44] ((rowN n (p a)).map dg))
def tabT (n : Nat) (p : Rel) : List Nat := jn [32] ((List.range n).map (enT p n))
section
variable {n m : Nat} {p q : Rel}
theorem row_lt {a w : Nat} (h : w ∈ rowN n (p a)) : w < n := (mem_rowN.mp h).1
theorem entry_ok (h6 : n ≤ 6) {a : Nat} (ha : a < n) : D_Table__entry [fz (tab n p), fz (nA a)] = some (fz (sA (enT p n a)), [fz (tab n p), fz (nA a)]) := by
  have c : Dc_Table__entry_1 [fz (tab n p), fz (nA a), .un, .un] = some (.ow (ow ((rowN n (p a)).map fun w => sA (dg w))), [fz (tab n p), fz (nA a), .un, .un]) := by
    unfold Dc_Table__entry_1
    have e1 := TT_at (p := p) ha
    refine gComp_all nA _ (by simp [e1, rowsN_at ha]) (by simp [offE]) (fun w m => ?_) (by simpa using sz (Nat.le_trans rowN_len (by omega)))
    have hw : w < 6 := Nat.lt_of_lt_of_le (row_lt m) h6
    simp [cstep, log_dig hw, repr_dig hw]
  have sa : a < 6 := Nat.lt_of_lt_of_le ha h6
  have l1 := log_dig sa
  have r1 := repr_dig sa
  have s44 : ("," : Str) = S [44] := by decide +kernel
  have s45 : ("-" : Str) = S [45] := by decide +kernel
  have s62 : (">" : Str) = S [62] := by decide +kernel
  have j := mJoin_S (sep := [44]) (l := (rowN n (p a)).map dg) (by
    have l := rowN_len (n := n) (f := p a)
    have e : (((rowN n (p a)).map dg).map List.length).sum = (rowN n (p a)).length := by
      generalize rowN n (p a) = R
      induction R with
      | nil => rfl
      | cons x R ih => simp only [List.map_cons, List.sum_cons, ih, List.length_cons]; show 1 + _ = _; omega
    rw [e]
    simp
    omega)
  rw [List.map_map] at j
  have lj : (jn [44] ((rowN n (p a)).map dg)).length ≤ 1000 := by
    have l := rowN_len (n := n) (f := p a)
    refine Nat.le_trans jn_len ?_
    have e : (((rowN n (p a)).map dg).map List.length).sum = (rowN n (p a)).length := by
      generalize rowN n (p a) = R
      induction R with
      | nil => rfl
      | cons x R ih => simp only [List.map_cons, List.sum_cons, ih, List.length_cons]; show 1 + _ = _; omega
    rw [e]
    simp
    omega
  have t := tru_S (l := jn [44] ((rowN n (p a)).map dg)) (by omega)
  unfold enT
  have z1 := sz (n := 1) (by decide)
  have z2 := sz (n := 2) (by decide)
  have z3 := sz (n := 3) (by decide)
  have j : mJoin (S [44]) [.lst ((rowN n (p a)).map fun w => sA (dg w))] = some (sA (jn [44] ((rowN n (p a)).map dg))) := j
  by_cases e0 : rowN n (p a) = []
  · rw [if_pos e0]
    rw [e0] at c j t
    simp only [List.map_nil] at c j t
    have t : (sA []).tru = some false := t
    have j : mJoin (S [44]) [.lst []] = some (sA []) := j
    simp [D_Table__entry, fnD_ev, Db_Table__entry, c, s44, j, t, l1, r1, s62, s45, z1, z2, z3]
  · rw [if_neg e0]
    have ne : (jn [44] ((rowN n (p a)).map dg)).isEmpty = false := by
      cases h : rowN n (p a) with
      | nil => exact (e0 h).elim
      | cons x R => cases R <;> rfl
    rw [ne] at t
    have t : (sA (jn [44] ((rowN n (p a)).map dg))).tru = some true := t
    have z4 := sz (n := (jn [44] ((rowN n (p a)).map dg)).length) (by omega)
    have z5 := sz (n := 1 + ((jn [44] ((rowN n (p a)).map dg)).length + 1)) (by omega)
    simp [D_Table__entry, fnD_ev, Db_Table__entry, c, s44, j, t, l1, r1, s62, z1, z2, z3, z4, z5]
theorem sum_dg {R : List Nat} : ((R.map dg).map List.length).sum = R.length := by
  induction R with
  | nil => rfl
  | cons x R ih => simp only [List.map_cons, List.sum_cons, ih, List.length_cons]; show 1 + _ = _; omega
theorem enT_len (h6 : n ≤ 6) {a : Nat} : (enT p n a).length ≤ 20 := by
  have l := rowN_len (n := n) (f := p a)
  unfold enT
  by_cases e0 : rowN n (p a) = []
  · rw [if_pos e0]; simp
  · rw [if_neg e0]
    have := jn_len (sep := [44]) (l := (rowN n (p a)).map dg)
    rw [sum_dg] at this
    simp at this ⊢
    omega
theorem sum_le {α : Type} {f : α → Nat} {k : Nat} : ∀ {l : List α}, (∀ x ∈ l, f x ≤ k) → (l.map f).sum ≤ l.length * k
  | [], _ => Nat.zero_le _
  | x :: l, h => by
    have h1 := h x List.mem_cons_self
    have h2 := sum_le (l := l) fun y m => h y (List.mem_cons_of_mem _ m)
    simp only [List.map_cons, List.sum_cons, List.length_cons, Nat.add_mul]
    omega
theorem str_ok (h6 : n ≤ 6) : D_Table___str__ [fz (tab n p)] = some (fz (sA (tabT n p)), [fz (tab n p)]) := by
  have sm : Sm n := .of (by omega)
  have c : Dc_Table___str___1 [fz (tab n p), .un] = some (.ow (ow ((List.range n).map fun a => sA (enT p n a))), [fz (tab n p), .un]) := by
    unfold Dc_Table___str___1
    refine gComp_all nA _ (by simp [sm]) (by simp [offE]) (fun a m => ?_) (by simpa using sm.le)
    have e := entry_ok (p := p) h6 (List.mem_range.mp m)
    simp [cstep, e]
  have s32 : (" " : Str) = S [32] := by decide +kernel
  have j := mJoin_S (sep := [32]) (l := (List.range n).map (enT p n)) (by
    have := sum_le (f := List.length) (k := 20) (l := (List.range n).map (enT p n)) (fun x m => by
      obtain ⟨a, _, rfl⟩ := List.mem_map.mp m
      exact enT_len h6)
    simp at this ⊢
    omega)
  have j : mJoin (S [32]) [.lst ((List.range n).map fun a => sA (enT p n a))] = some (sA (tabT n p)) := by
    rw [List.map_map] at j
    exact j
  simp [D_Table___str__, fnD_ev, Db_Table___str__, c, s32, j]
/-! ### the text tells the table -/
theorem dg_inj {a b : Nat} : dg a = dg b ↔ a = b := by simp [dg]
theorem jn_dg_inj {r q : List Nat} (hr : r ≠ []) (hq : q ≠ []) (lr : ∀ x ∈ r, x < 6) (lq : ∀ x ∈ q, x < 6) (e : jn [44] (r.map dg) = jn [44] (q.map dg)) : r = q := by
  have h := jn_inj (s := 44) (by simpa using hr) (by simpa using hq) (fun x m => by
    obtain ⟨a, _, rfl⟩ := List.mem_map.mp m
    simp [dg]; omega) (fun x m => by
    obtain ⟨a, _, rfl⟩ := List.mem_map.mp m
    simp [dg]; omega) e
  exact (List.map_inj_right (fun a b h => dg_inj.mp h)).mp h
theorem jn_mem {sep : List Nat} {c : Nat} : ∀ {l : List (List Nat)}, c ∈ jn sep l → c ∈ sep ∨ ∃ x ∈ l, c ∈ x
  | [], h => by simp [jn] at h
  | [x], h => .inr ⟨x, List.mem_cons_self, h⟩
  | x :: y :: r, h => by
    rw [jn_cons2] at h
    simp only [List.mem_append] at h
    rcases h with h | h | h
    · exact .inr ⟨x, List.mem_cons_self, h⟩
    · exact .inl h
    · exact (jn_mem h).imp id fun ⟨z, m, k⟩ => ⟨z, List.mem_cons_of_mem _ m, k⟩
theorem enT_32 {a : Nat} : 32 ∉ enT p n a := fun h => by
  unfold enT at h
  rcases List.mem_append.mp h with h | h
  · simp [dg] at h; omega
  · rcases List.mem_cons.mp h with h | h
    · cases h
    · split at h
      · simp at h
      · rcases jn_mem h with h | ⟨x, m, h⟩
        · simp at h
        · obtain ⟨w, _, rfl⟩ := List.mem_map.mp m
          simp [dg] at h; omega
theorem enT_inj (h6 : n ≤ 6) {a : Nat} (e : enT p n a = enT q n a) : rowN n (p a) = rowN n (q a) := by
  unfold enT at e
  have e := (List.cons.inj (List.append_cancel_left e)).2
  have lt : ∀ {s : Rel}, ∀ x ∈ rowN n (s a), x < 6 := fun x m => Nat.lt_of_lt_of_le (row_lt m) h6
  have no : ∀ {r : List Nat}, r ≠ [] → (∀ x ∈ r, x < 6) → [45] ≠ jn [44] (r.map dg) := fun {r} h l e => by
    cases r with
    | nil => exact h rfl
    | cons x r =>
      have hx := l x List.mem_cons_self
      cases r with
      | nil => simp [jn, dg] at e; omega
      | cons y r => 
        rw [List.map_cons, List.map_cons, jn_cons2] at e
        simp [dg] at e
  by_cases h1 : rowN n (p a) = [] <;> by_cases h2 : rowN n (q a) = []
  · rw [h1, h2]
  · rw [if_pos h1, if_neg h2] at e
    exact (no h2 lt e).elim
  · rw [if_neg h1, if_pos h2] at e
    exact (no h1 lt e.symm).elim
  · rw [if_neg h1, if_neg h2] at e
    exact jn_dg_inj h1 h2 lt lt e
theorem enT_len_eq (hn : 1 ≤ n) (hm : 1 ≤ m) (h6 : n ≤ 6) (k6 : m ≤ 6) (e : tabT n p = tabT m q) : (List.range n).map (enT p n) = (List.range m).map (enT q m) :=
  jn_inj (s := 32) (fun h => by have := congrArg List.length h; simp at this; omega) (fun h => by have := congrArg List.length h; simp at this; omega) (fun x mm => by obtain ⟨a, _, rfl⟩ := List.mem_map.mp mm; exact enT_32) (fun x mm => by obtain ⟨a, _, rfl⟩ := List.mem_map.mp mm; exact enT_32) e
theorem tabT_inj (hn : 1 ≤ n) (h6 : n ≤ 6) : tabT n p = tabT n q ↔ rowsN n p = rowsN n q := by
  constructor
  · intro e
    have h := enT_len_eq hn hn h6 h6 e
    refine List.map_congr_left fun a m => ?_
    exact enT_inj h6 (List.map_inj_left.mp h a m)
  · intro e
    have e := rowsN_inj.mp e
    unfold tabT
    congr 1
    refine List.map_congr_left fun a m => ?_
    unfold enT
    rw [show rowN n (p a) = rowN n (q a) from rowN_congr fun b hb => e a b (List.mem_range.mp m) hb]
end
/-! ### the text of rows -/
theorem toD_int {x : Int} : A.toD (.int x) = some (PyData.int x) := by simp [A.toD]
theorem toD_nL {r : List Nat} : A.toD (nL r) = some (PyData.list (r.map fun x : Nat => PyData.int (x : Int))) := by
  show A.toD (.lst (r.map nA)) = _
  rw [A.toD, toDL_map (e := nA) (g := fun x : Nat => PyData.int (x : Int)) fun x => toD_int]
  rfl
theorem toD_LL {R : List (List Nat)} : A.toD (LL R) = some (PyData.list (R.map fun r => PyData.list (r.map fun x : Nat => PyData.int (x : Int)))) := by
  show A.toD (.lst (R.map nL)) = _
  rw [A.toD, toDL_map (e := nL) (g := fun r => PyData.list (r.map fun x : Nat => PyData.int (x : Int))) fun x => toD_nL]
  rfl
theorem fine_all {d : Nat} : ∀ {l : List PyData}, (∀ x ∈ l, x.showable = true ∧ x.hasDict = false ∧ x.depth ≤ d) → PyData.showableAll l = true ∧ PyData.hasDictAll l = false ∧ PyData.depthAll l ≤ d
  | [], _ => by simp [PyData.showableAll, PyData.hasDictAll, PyData.depthAll]
  | x :: l, h => by
    obtain ⟨a, b, c⟩ := h x List.mem_cons_self
    obtain ⟨a', b', c'⟩ := fine_all (l := l) fun y m => h y (List.mem_cons_of_mem _ m)
    simp only [PyData.showableAll, PyData.hasDictAll, PyData.depthAll, a, b, a', b']
    exact ⟨rfl, rfl, by omega⟩
theorem fine_list {d : Nat} {l : List PyData} (h : ∀ x ∈ l, x.showable = true ∧ x.hasDict = false ∧ x.depth ≤ d) : (PyData.list l).showable = true ∧ (PyData.list l).hasDict = false ∧ (PyData.list l).depth ≤ d + 1 := by
  obtain ⟨a, b, c⟩ := fine_all h
  simp only [PyData.showable, PyData.hasDict, PyData.depth, a, b]
  exact ⟨trivial, trivial, by omega⟩
theorem fine_nL {r : List Nat} (h : ∀ x ∈ r, x < 6) : (PyData.list (r.map fun x : Nat => PyData.int (x : Int))).showable = true ∧ (PyData.list (r.map fun x : Nat => PyData.int (x : Int))).hasDict = false ∧ (PyData.list (r.map fun x : Nat => PyData.int (x : Int))).depth ≤ 1 :=
  fine_list (d := 0) fun x m => by
    obtain ⟨w, k, rfl⟩ := List.mem_map.mp m
    have := log_dig (h w k)
    simp [PyData.showable, PyData.hasDict, PyData.depth, this]
theorem rowsT_len {R : List (List Nat)} (l : ∀ r ∈ R, r.length ≤ 6) (k : R.length ≤ 6) : (rowsT R).length ≤ 1000 := by
  have := sum_le (f := List.length) (k := 30) (l := R.map rowT) (fun x m => by
    obtain ⟨r, k, rfl⟩ := List.mem_map.mp m
    have := inT_len (r := r)
    have := l r k
    simp [rowT]
    omega)
  have h := jn_len (sep := [44, 32]) (l := R.map rowT)
  simp [rowsT] at this h ⊢
  omega
theorem strD_rows {R : List (List Nat)} (h : ∀ r ∈ R, ∀ x ∈ r, x < 6) (l : ∀ r ∈ R, r.length ≤ 6) (k : R.length ≤ 6) : fStrD (LL R) = some (sA (rowsT R)) := by
  show (A.toD (LL R)).bind _ = _
  rw [toD_LL, Option.bind_some, shown_rows h]
  obtain ⟨a, b, c⟩ := fine_list (d := 1) (l := R.map fun r => PyData.list (r.map fun x : Nat => PyData.int (x : Int))) fun x m => by
    obtain ⟨r, k, rfl⟩ := List.mem_map.mp m
    exact fine_nL (h r k)
  have z := sz (n := (rowsT R).length) (by have := rowsT_len l k; omega)
  rw [if_pos]
  rw [a, b, S_len, decide_eq_true z, decide_eq_true (Nat.le_trans c (by decide : 1 + 1 ≤ 60))]
  rfl
section
variable {n : Nat} {p q : Rel}
theorem strD_rowsN (h6 : n ≤ 6) : fStrD (LL (rowsN n p)) = some (sA (rowsT (rowsN n p))) := by
  have a : ∀ r ∈ rowsN n p, ∀ x ∈ r, x < 6 := fun r m x k => by
    obtain ⟨a, _, rfl⟩ := List.mem_map.mp m
    exact Nat.lt_of_lt_of_le (row_lt k) h6
  have b : ∀ r ∈ rowsN n p, r.length ≤ 6 := fun r m => by
    obtain ⟨a, _, rfl⟩ := List.mem_map.mp m
    exact Nat.le_trans rowN_len h6
  exact strD_rows a b (by simpa [rowsN] using h6)
theorem rowsT_N (h6 : n ≤ 6) : rowsT (rowsN n p) = rowsT (rowsN n q) ↔ rowsN n p = rowsN n q := by
  have a : ∀ {p : Rel}, ∀ r ∈ rowsN n p, ∀ x ∈ r, x < 6 := fun {p} r m x k => by
    obtain ⟨a, _, rfl⟩ := List.mem_map.mp m
    exact Nat.lt_of_lt_of_le (row_lt k) h6
  exact ⟨rowsT_inj a a, fun e => by rw [e]⟩
end
end Fn
namespace Fn
open PySem PySem.Spec L2 Dl Dg
/-! ## going on from row to row, each class of rows once -/
structure Cong (al : List Nat → List Nat → Bool) : Prop where
  refl : ∀ x, al x x = true
  symm : ∀ {x y}, al x y = true → al y x = true
  trans : ∀ {x y z}, al x y = true → al y z = true → al x z = true
  snoc : ∀ {x y} (c : Nat), al x y = true → al (x ++ [c]) (y ++ [c]) = true
def bput (al : List Nat → List Nat → Bool) (L : List (List Nat)) (w : List Nat) : List (List Nat) := if L.any (al w) then L else L ++ [w]
def brow (al : List Nat → List Nat → Bool) (x : List Nat) (cs : List Nat) (L : List (List Nat)) : List (List Nat) := cs.foldl (fun L c => bput al L (x ++ [c])) L
def leLex (x y : List Nat) : Prop := x = y ∨ lenLex x y
theorem leLex_trans {x y z : List Nat} (h : leLex x y) (k : leLex y z) : leLex x z := by
  rcases h with rfl | h
  · exact k
  · rcases k with rfl | k
    · exact .inr h
    · exact .inr (lenLex_trans h k)
theorem lenLex_snoc {x y : List Nat} {a b : Nat} (h : lenLex x y) : lenLex (x ++ [a]) (y ++ [b]) := by
  rcases h with h | ⟨l, h⟩
  · exact .inl (by simpa using h)
  · exact .inr ⟨by simpa using l, lexN_snoc l h⟩
theorem lenLex_last {x : List Nat} {a b : Nat} (h : a < b) : lenLex (x ++ [a]) (x ++ [b]) := .inr ⟨by simp, lexN_same h⟩
theorem leLex_snoc {x y : List Nat} {a : Nat} (h : leLex x y) : leLex (x ++ [a]) (y ++ [a]) := by
  rcases h with rfl | h
  · exact .inl rfl
  · exact .inr (lenLex_snoc h)
section
variable {al : List Nat → List Nat → Bool} {ls : List Nat} {L : List (List Nat)} {k : Nat} {x w : List Nat} {c : Nat} {cs : List Nat}
theorem bput_pre : L <+: bput al L w := by
  unfold bput
  split
  · exact List.prefix_refl _
  · exact List.prefix_append _ _
theorem pre_at {L' : List (List Nat)} (h : L <+: L') (e : L[k]? = some x) : L'[k]? = some x := by
  obtain ⟨t, rfl⟩ := h
  rw [List.getElem?_append_left]
  · exact e
  · exact (List.getElem?_eq_some_iff.mp e).1
theorem pre_mem {L' : List (List Nat)} (h : L <+: L') (m : x ∈ L) : x ∈ L' := h.subset m
def BSrc (L : List (List Nat)) (k : Nat) (cs : List Nat) (y : List Nat) : Prop := y = [] ∨ ∃ j x c', L[j]? = some x ∧ y = x ++ [c'] ∧ (j < k ∨ j = k ∧ c' ∈ cs)
/-- each letter behind x leads to an entry that is not greater -/
def Goes (al : List Nat → List Nat → Bool) (L : List (List Nat)) (x : List Nat) (c : Nat) : Prop := ∃ y ∈ L, al (x ++ [c]) y = true ∧ leLex y (x ++ [c])
structure BInv (al : List Nat → List Nat → Bool) (ls : List Nat) (L : List (List Nat)) (k : Nat) (cs : List Nat) : Prop where
  head : L[0]? = some []
  over : ∀ y ∈ L, ∀ c ∈ y, c ∈ ls
  sorted : L.Pairwise lenLex
  nal : L.Pairwise fun x y => al x y = false
  cl : ∀ j, j < k → ∀ x, L[j]? = some x → ∀ c ∈ ls, Goes al L x c
  clk : ∀ x, L[k]? = some x → ∀ c ∈ cs, Goes al L x c
  src : ∀ y ∈ L, BSrc L k cs y
theorem Goes.mono {L' : List (List Nat)} (h : L <+: L') (g : Goes al L x c) : Goes al L' x c := let ⟨y, m, r⟩ := g; ⟨y, pre_mem h m, r⟩
theorem BInv.below (I : BInv al ls L k cs) (e : L[k]? = some x) (hc : ∀ c' ∈ cs, c' < c) : ∀ y ∈ L, lenLex y (x ++ [c]) := fun y m => by
  rcases I.src y m with rfl | ⟨j, z, c', ej, rfl, h | ⟨rfl, h⟩⟩
  · exact .inl (by simp)
  · have hlt : lenLex z x := by
      obtain ⟨hj, ej⟩ := List.getElem?_eq_some_iff.mp ej
      obtain ⟨hk, ek⟩ := List.getElem?_eq_some_iff.mp e
      have := List.pairwise_iff_getElem.mp I.sorted j k hj hk h
      rwa [ej, ek] at this
    exact lenLex_snoc hlt
  · rw [e] at ej
    cases ej
    exact lenLex_last (hc c' h)
theorem BInv.put (C : Cong al) (I : BInv al ls L k cs) (e : L[k]? = some x) (hl : c ∈ ls) (hc : ∀ c' ∈ cs, c' < c) : BInv al ls (bput al L (x ++ [c])) k (cs ++ [c]) := by
  have bl := I.below e hc
  have pre : L <+: bput al L (x ++ [c]) := bput_pre
  have hx : ∀ a ∈ x, a ∈ ls := I.over x (List.mem_of_getElem? e)
  have goes : Goes al (bput al L (x ++ [c])) x c := by
    unfold bput
    split
    case isTrue h =>
      obtain ⟨y, m, h⟩ := List.any_eq_true.mp h
      exact ⟨y, m, h, .inr (bl y m)⟩
    case isFalse h => exact ⟨x ++ [c], by simp, C.refl _, .inl rfl⟩
  have old : ∀ {j z}, L[j]? = some z → (bput al L (x ++ [c]))[j]? = some z := fun h => pre_at pre h
  have back : ∀ {j z}, j < L.length → (bput al L (x ++ [c]))[j]? = some z → L[j]? = some z := fun {j z} hj h => by
    have := List.getElem?_eq_getElem hj
    rw [old this] at h
    rw [this, h]
  have hk := (List.getElem?_eq_some_iff.mp e).1
  have mem : ∀ y ∈ bput al L (x ++ [c]), y ∈ L ∨ y = x ++ [c] ∧ L.any (al (x ++ [c])) = false := fun y m => by
    unfold bput at m
    split at m
    case isTrue => exact .inl m
    case isFalse h =>
      rcases List.mem_append.mp m with m | m
      · exact .inl m
      · exact .inr ⟨by simpa using m, by simpa using h⟩
  refine ⟨old I.head, fun y m a ma => ?_, ?_, ?_, fun j hj z ez a ma => ?_, fun z ez a ma => ?_, fun y m => ?_⟩
  · rcases mem y m with m | ⟨rfl, _⟩
    · exact I.over y m a ma
    · rcases List.mem_append.mp ma with ma | ma
      · exact hx a ma
      · rw [List.mem_singleton.mp ma]; exact hl
  · unfold bput
    split
    case isTrue => exact I.sorted
    case isFalse => exact List.pairwise_append.mpr ⟨I.sorted, List.pairwise_singleton _ _, fun y m z mz => by rw [List.mem_singleton.mp mz]; exact bl y m⟩
  · unfold bput
    split
    case isTrue => exact I.nal
    case isFalse h =>
      refine List.pairwise_append.mpr ⟨I.nal, List.pairwise_singleton _ _, fun y m z mz => ?_⟩
      rw [List.mem_singleton.mp mz]
      cases q : al y (x ++ [c]) with
      | false => rfl
      | true => exact (h (List.any_eq_true.mpr ⟨y, m, C.symm q⟩)).elim
  · exact (I.cl j hj z (back (by omega) ez) a ma).mono pre
  · have ez := back hk ez
    rcases List.mem_append.mp ma with ma | ma
    · exact (I.clk z ez a ma).mono pre
    · rw [e] at ez
      cases ez
      rw [List.mem_singleton.mp ma]
      exact goes
  · rcases mem y m with m | ⟨rfl, _⟩
    · rcases I.src y m with h | ⟨j, z, c', ej, h, o⟩
      · exact .inl h
      · exact .inr ⟨j, z, c', old ej, h, o.imp id fun ⟨a, b⟩ => ⟨a, List.mem_append_left _ b⟩⟩
    · exact .inr ⟨k, x, c, old e, rfl, .inr ⟨rfl, by simp⟩⟩
theorem BInv.row (C : Cong al) : ∀ {ds cs : List Nat} {L : List (List Nat)}, BInv al ls L k cs → L[k]? = some x → (∀ c ∈ ds, c ∈ ls) → (cs ++ ds).Pairwise (· < ·) → BInv al ls (brow al x ds L) k (cs ++ ds)
  | [], cs, L, I, _, _, _ => by rw [List.append_nil]; exact I
  | c :: ds, cs, L, I, e, h, s => by
    have s1 : ∀ c' ∈ cs, c' < c := fun c' m => (List.pairwise_append.mp s).2.2 c' m c List.mem_cons_self
    have := BInv.row C (ds := ds) (I.put C e (h c List.mem_cons_self) s1) (pre_at bput_pre e) (fun c m => h c (List.mem_cons_of_mem _ m)) (by rw [List.append_assoc]; exact s)
    rw [List.append_assoc] at this
    exact this
theorem BInv.next (I : BInv al ls L k ls) : BInv al ls L (k + 1) [] :=
  ⟨I.head, I.over, I.sorted, I.nal, fun j hj x e c m => by
    rcases Nat.lt_succ_iff_lt_or_eq.mp hj with h | rfl
    · exact I.cl j h x e c m
    · exact I.clk x e c m, (fun _ _ _ m => nomatch m), fun y m => (I.src y m).imp id fun ⟨j, z, c', ej, h, o⟩ => ⟨j, z, c', ej, h, .inl (by rcases o with o | ⟨o, _⟩ <;> omega)⟩⟩
/-! ### when it is complete -/
structure Full (al : List Nat → List Nat → Bool) (ls : List Nat) (L : List (List Nat)) : Prop where
  head : L[0]? = some []
  over : ∀ y ∈ L, ∀ c ∈ y, c ∈ ls
  sorted : L.Pairwise lenLex
  nal : L.Pairwise fun x y => al x y = false
  cl : ∀ x ∈ L, ∀ c ∈ ls, Goes al L x c
theorem Full.rep (C : Cong al) (F : Full al ls L) (w : List Nat) : (∀ c ∈ w, c ∈ ls) → ∃ y ∈ L, al w y = true ∧ leLex y w := by
  refine snoc_ind (P := fun w => (∀ c ∈ w, c ∈ ls) → ∃ y ∈ L, al w y = true ∧ leLex y w) (fun _ => ⟨[], List.mem_of_getElem? F.head, C.refl _, .inl rfl⟩) (fun v c ih h => ?_) w
  obtain ⟨x, mx, a, l⟩ := ih fun a m => h a (List.mem_append_left _ m)
  obtain ⟨y, my, b, l2⟩ := F.cl x mx c (h c (by simp))
  exact ⟨y, my, C.trans (C.snoc c a) b, leLex_trans l2 (leLex_snoc l)⟩
theorem nal_eq (C : Cong al) (N : L.Pairwise fun x y => al x y = false) {x y : List Nat} (mx : x ∈ L) (my : y ∈ L) (h : al x y = true) : x = y := by
  obtain ⟨i, hi, rfl⟩ := List.getElem_of_mem mx
  obtain ⟨j, hj, rfl⟩ := List.getElem_of_mem my
  rcases Nat.lt_trichotomy i j with l | l | l
  · have := List.pairwise_iff_getElem.mp N i j hi hj l
    rw [h] at this; cases this
  · subst l; rfl
  · have := List.pairwise_iff_getElem.mp N j i hj hi l
    rw [C.symm h] at this; cases this
theorem Full.least (C : Cong al) (F : Full al ls L) {y w : List Nat} (hw : ∀ c ∈ w, c ∈ ls) (my : y ∈ L) (h : al w y = true) : leLex y w := by
  obtain ⟨z, mz, a, l⟩ := F.rep C w hw
  rw [nal_eq C F.nal my mz (C.trans (C.symm h) a)]
  exact l
/-! ### where the class of a row stands -/
def plc (al : List Nat → List Nat → Bool) (L : List (List Nat)) (w : List Nat) : Nat := L.findIdx (al w)
theorem Full.any (C : Cong al) (F : Full al ls L) (hw : ∀ c ∈ w, c ∈ ls) : L.any (al w) = true := by
  obtain ⟨y, m, a, _⟩ := F.rep C w hw
  exact List.any_eq_true.mpr ⟨y, m, a⟩
end
end Fn
namespace Fn
open PySem PySem.Spec L2 Dl Dg
/-! ## dicts under texts -/
abbrev sK (x : List Nat) : Key := .inr (S x)
theorem sK_inj {a b : List Nat} : sK a = sK b ↔ a = b := by
  constructor
  · intro h
    injection h with h
    exact S_inj.mp h
  · intro h; rw [h]
theorem valA_out {q : Key} : ∀ {ks : List Key} {xs : List A}, q ∉ ks → valA ks xs q = none
  | [], xs, _ => by cases xs <;> rfl
  | k :: ks, [], _ => rfl
  | k :: ks, x :: xs, h => by
    show (if k = q then some x else valA ks xs q) = none
    rw [if_neg fun z => h (by rw [z]; exact List.mem_cons_self), valA_out fun z => h (List.mem_cons_of_mem _ z)]
theorem valA_in {q : Key} : ∀ {ks : List Key} {xs : List A}, ks.length = xs.length → q ∈ ks → (valA ks xs q).isSome = true
  | [], xs, _, h => nomatch h
  | k :: ks, [], e, _ => nomatch e
  | k :: ks, x :: xs, e, h => by
    show (if k = q then some x else valA ks xs q).isSome = true
    by_cases c : k = q
    · rw [if_pos c]; rfl
    · rw [if_neg c]
      exact valA_in (by simpa using e) ((List.mem_cons.mp h).resolve_left fun z => c z.symm)
theorem putZ_app {q : Key} {a : A} : ∀ {ks : List Key} {xs : List A}, ks.length = xs.length → q ∉ ks → putZ ks xs q a = (ks ++ [q], xs ++ [a])
  | [], [], _, _ => rfl
  | [], _ :: _, e, _ => nomatch e
  | _ :: _, [], e, _ => nomatch e
  | k :: ks, x :: xs, e, h => by
    have h2 : ¬ k = q := fun z => h (by rw [z]; exact List.mem_cons_self)
    rw [putZ_cons, if_neg h2, putZ_app (by simpa using e) fun z => h (List.mem_cons_of_mem _ z)]
    rfl
theorem notIn_s1 {t : List Nat} {ks : List Key} {xs : List A} (e : ks.length = xs.length) (h : sK t ∈ ks) : fDNotIn (sA t) (.dK ks xs) = some (.bl false) := by
  show (some (valA ks xs (sK t))).map _ = _
  simp only [Option.map_some, valA_in e h]; rfl
theorem notIn_s0 {t : List Nat} {ks : List Key} {xs : List A} (h : sK t ∉ ks) : fDNotIn (sA t) (.dK ks xs) = some (.bl true) := by
  show (some (valA ks xs (sK t))).map _ = _
  simp only [Option.map_some, valA_out h]; rfl
theorem isIn_s1 {t : List Nat} {ks : List Key} {xs : List A} (e : ks.length = xs.length) (h : sK t ∈ ks) : fDIn (sA t) (.dK ks xs) = some (.bl true) := by
  show (some (valA ks xs (sK t))).map _ = _
  simp only [Option.map_some, valA_in e h]
theorem isIn_s0 {t : List Nat} {ks : List Key} {xs : List A} (h : sK t ∉ ks) : fDIn (sA t) (.dK ks xs) = some (.bl false) := by
  show (some (valA ks xs (sK t))).map _ = _
  simp only [Option.map_some, valA_out h]; rfl
section
variable {env : Dl.Env}
@[simp] theorem gPs0_ev : gPs0 env = some ([], env) := (rfl)
@[simp] theorem gPs_ev {gk gv : Dl.Env → Option (A × Dl.Env)} {gr : Dl.Env → Option (List (A × A) × Dl.Env)} : gPs gk gv gr env = (gk env).ob fun p => (gv p.2).ob fun q => (gr q.2).om fun r => ((p.1, q.1) :: r.1, r.2) := (rfl)
@[simp] theorem gDisp_ev {g : Dl.Env → Option (List (A × A) × Dl.Env)} : gDisp g env = (g env).ob fun p => (dispK p.1).om fun d => (.ow (.fl d), p.2) := (rfl)
theorem dispK_one {t : List Nat} {a : A} : dispK [(sA t, a)] = some (.dK [sK t] [a]) := (rfl)
end
/-! ## the rows of a cast, by their tables -/
section
variable {n : Nat} {T : Nat → Rel} {ls ks : List Nat} {p : Rel}
/-- the table that is reached from p behind the row -/
def gR (n : Nat) (T : Nat → Rel) (p : Rel) (x : List Nat) : Rel := (x.map T).foldl (mulR n) p
theorem gR_snoc {x : List Nat} {c : Nat} : gR n T p (x ++ [c]) = mulR n (gR n T p x) (T c) := by simp [gR]
def alR (n : Nat) (T : Nat → Rel) (p : Rel) (x y : List Nat) : Bool := decide (rowsN n (gR n T p x) = rowsN n (gR n T p y))
theorem alR_iff {x y : List Nat} : alR n T p x y = true ↔ EqN n (gR n T p x) (gR n T p y) := by
  unfold alR
  rw [decide_eq_true_eq, rowsN_inj]
  exact ⟨fun h a ha b hb => h a b ha hb, fun h a b ha hb => h a ha b hb⟩
theorem cong_al : Cong (alR n T p) :=
  ⟨fun x => alR_iff.mpr EqN.refl, fun h => alR_iff.mpr (alR_iff.mp h).symm, fun h k => alR_iff.mpr ((alR_iff.mp h).trans (alR_iff.mp k)), fun {x y} c h => alR_iff.mpr (by rw [gR_snoc, gR_snoc]; exact mulR_eqN (alR_iff.mp h) EqN.refl)⟩
/-! ### the law's list -/
end
end Fn
namespace Fn
open PySem PySem.Spec L2 Dl Dg
@[simp] theorem nml0 : ¬ (("_cast" : Str) = "_names") := by decide +kernel
@[simp] theorem nml0b : (("_cast" : Str) == "_names") = false := by decide +kernel
@[simp] theorem nml1 : ¬ (("_cast" : Str) = "_tables") := by decide +kernel
@[simp] theorem nml1b : (("_cast" : Str) == "_tables") = false := by decide +kernel
@[simp] theorem nml2 : ¬ (("_cast" : Str) = "_places") := by decide +kernel
@[simp] theorem nml2b : (("_cast" : Str) == "_places") = false := by decide +kernel
@[simp] theorem nml3 : ¬ (("_cast" : Str) = "_after") := by decide +kernel
@[simp] theorem nml3b : (("_cast" : Str) == "_after") = false := by decide +kernel
@[simp] theorem nml4 : ¬ (("_names" : Str) = "_cast") := by decide +kernel
@[simp] theorem nml4b : (("_names" : Str) == "_cast") = false := by decide +kernel
@[simp] theorem nml5 : ¬ (("_names" : Str) = "_tables") := by decide +kernel
@[simp] theorem nml5b : (("_names" : Str) == "_tables") = false := by decide +kernel
@[simp] theorem nml6 : ¬ (("_names" : Str) = "_places") := by decide +kernel
@[simp] theorem nml6b : (("_names" : Str) == "_places") = false := by decide +kernel
@[simp] theorem nml7 : ¬ (("_names" : Str) = "_after") := by decide +kernel
@[simp] theorem nml7b : (("_names" : Str) == "_after") = false := by decide +kernel
@[simp] theorem nml8 : ¬ (("_tables" : Str) = "_cast") := by decide +kernel
@[simp] theorem nml8b : (("_tables" : Str) == "_cast") = false := by decide +kernel
@[simp] theorem nml9 : ¬ (("_tables" : Str) = "_names") := by decide +kernel
@[simp] theorem nml9b : (("_tables" : Str) == "_names") = false := by decide +kernel
@[simp] theorem nml10 : ¬ (("_tables" : Str) = "_places") := by decide +kernel
@[simp] theorem nml10b : (("_tables" : Str) == "_places") = false := by decide +kernel
@[simp] theorem nml11 : ¬ (("_tables" : Str) = "_after") := by decide +kernel
@[simp] theorem nml11b : (("_tables" : Str) == "_after") = false := by decide +kernel
@[simp] theorem nml12 : ¬ (("_places" : Str) = "_cast") := by decide +kernel
@[simp] theorem nml12b : (("_places" : Str) == "_cast") = false := by decide +kernel
@[simp] theorem nml13 : ¬ (("_places" : Str) = "_names") := by decide +kernel
@[simp] theorem nml13b : (("_places" : Str) == "_names") = false := by decide +kernel
@[simp] theorem nml14 : ¬ (("_places" : Str) = "_tables") := by decide +kernel
@[simp] theorem nml14b : (("_places" : Str) == "_tables") = false := by decide +kernel
@[simp] theorem nml15 : ¬ (("_places" : Str) = "_after") := by decide +kernel
@[simp] theorem nml15b : (("_places" : Str) == "_after") = false := by decide +kernel
@[simp] theorem nml16 : ¬ (("_after" : Str) = "_cast") := by decide +kernel
@[simp] theorem nml16b : (("_after" : Str) == "_cast") = false := by decide +kernel
@[simp] theorem nml17 : ¬ (("_after" : Str) = "_names") := by decide +kernel
@[simp] theorem nml17b : (("_after" : Str) == "_names") = false := by decide +kernel
@[simp] theorem nml18 : ¬ (("_after" : Str) = "_tables") := by decide +kernel
@[simp] theorem nml18b : (("_after" : Str) == "_tables") = false := by decide +kernel
@[simp] theorem nml19 : ¬ (("_after" : Str) = "_places") := by decide +kernel
@[simp] theorem nml19b : (("_after" : Str) == "_places") = false := by decide +kernel
@[simp] theorem nml20 : ¬ (("_place_for" : Str) = "_cast") := by decide +kernel
@[simp] theorem nml20b : (("_place_for" : Str) == "_cast") = false := by decide +kernel
@[simp] theorem nml21 : ¬ (("_place_for" : Str) = "_names") := by decide +kernel
@[simp] theorem nml21b : (("_place_for" : Str) == "_names") = false := by decide +kernel
@[simp] theorem nml22 : ¬ (("_place_for" : Str) = "_tables") := by decide +kernel
@[simp] theorem nml22b : (("_place_for" : Str) == "_tables") = false := by decide +kernel
@[simp] theorem nml23 : ¬ (("_place_for" : Str) = "_places") := by decide +kernel
@[simp] theorem nml23b : (("_place_for" : Str) == "_places") = false := by decide +kernel
@[simp] theorem nml24 : ¬ (("_place_for" : Str) = "_after") := by decide +kernel
@[simp] theorem nml24b : (("_place_for" : Str) == "_after") = false := by decide +kernel
@[simp] theorem nml25 : ¬ (("_gather" : Str) = "_cast") := by decide +kernel
@[simp] theorem nml25b : (("_gather" : Str) == "_cast") = false := by decide +kernel
@[simp] theorem nml26 : ¬ (("_gather" : Str) = "_names") := by decide +kernel
@[simp] theorem nml26b : (("_gather" : Str) == "_names") = false := by decide +kernel
@[simp] theorem nml27 : ¬ (("_gather" : Str) = "_tables") := by decide +kernel
@[simp] theorem nml27b : (("_gather" : Str) == "_tables") = false := by decide +kernel
@[simp] theorem nml28 : ¬ (("_gather" : Str) = "_places") := by decide +kernel
@[simp] theorem nml28b : (("_gather" : Str) == "_places") = false := by decide +kernel
@[simp] theorem nml29 : ¬ (("_gather" : Str) = "_after") := by decide +kernel
@[simp] theorem nml29b : (("_gather" : Str) == "_after") = false := by decide +kernel
@[simp] theorem nml30 : ¬ (("_led_on" : Str) = "_cast") := by decide +kernel
@[simp] theorem nml30b : (("_led_on" : Str) == "_cast") = false := by decide +kernel
@[simp] theorem nml31 : ¬ (("_led_on" : Str) = "_names") := by decide +kernel
@[simp] theorem nml31b : (("_led_on" : Str) == "_names") = false := by decide +kernel
@[simp] theorem nml32 : ¬ (("_led_on" : Str) = "_tables") := by decide +kernel
@[simp] theorem nml32b : (("_led_on" : Str) == "_tables") = false := by decide +kernel
@[simp] theorem nml33 : ¬ (("_led_on" : Str) = "_places") := by decide +kernel
@[simp] theorem nml33b : (("_led_on" : Str) == "_places") = false := by decide +kernel
@[simp] theorem nml34 : ¬ (("_led_on" : Str) = "_after") := by decide +kernel
@[simp] theorem nml34b : (("_led_on" : Str) == "_after") = false := by decide +kernel
@[simp] theorem nml35 : ¬ (("_place_of" : Str) = "_cast") := by decide +kernel
@[simp] theorem nml35b : (("_place_of" : Str) == "_cast") = false := by decide +kernel
@[simp] theorem nml36 : ¬ (("_place_of" : Str) = "_names") := by decide +kernel
@[simp] theorem nml36b : (("_place_of" : Str) == "_names") = false := by decide +kernel
@[simp] theorem nml37 : ¬ (("_place_of" : Str) = "_tables") := by decide +kernel
@[simp] theorem nml37b : (("_place_of" : Str) == "_tables") = false := by decide +kernel
@[simp] theorem nml38 : ¬ (("_place_of" : Str) = "_places") := by decide +kernel
@[simp] theorem nml38b : (("_place_of" : Str) == "_places") = false := by decide +kernel
@[simp] theorem nml39 : ¬ (("_place_of" : Str) = "_after") := by decide +kernel
@[simp] theorem nml39b : (("_place_of" : Str) == "_after") = false := by decide +kernel
@[simp] theorem nml40 : ¬ (("names" : Str) = "_cast") := by decide +kernel
@[simp] theorem nml40b : (("names" : Str) == "_cast") = false := by decide +kernel
@[simp] theorem nml41 : ¬ (("names" : Str) = "_names") := by decide +kernel
@[simp] theorem nml41b : (("names" : Str) == "_names") = false := by decide +kernel
@[simp] theorem nml42 : ¬ (("names" : Str) = "_tables") := by decide +kernel
@[simp] theorem nml42b : (("names" : Str) == "_tables") = false := by decide +kernel
@[simp] theorem nml43 : ¬ (("names" : Str) = "_places") := by decide +kernel
@[simp] theorem nml43b : (("names" : Str) == "_places") = false := by decide +kernel
@[simp] theorem nml44 : ¬ (("names" : Str) = "_after") := by decide +kernel
@[simp] theorem nml44b : (("names" : Str) == "_after") = false := by decide +kernel
@[simp] theorem nml45 : ¬ (("name_of" : Str) = "_cast") := by decide +kernel
@[simp] theorem nml45b : (("name_of" : Str) == "_cast") = false := by decide +kernel
@[simp] theorem nml46 : ¬ (("name_of" : Str) = "_names") := by decide +kernel
@[simp] theorem nml46b : (("name_of" : Str) == "_names") = false := by decide +kernel
@[simp] theorem nml47 : ¬ (("name_of" : Str) = "_tables") := by decide +kernel
@[simp] theorem nml47b : (("name_of" : Str) == "_tables") = false := by decide +kernel
@[simp] theorem nml48 : ¬ (("name_of" : Str) = "_places") := by decide +kernel
@[simp] theorem nml48b : (("name_of" : Str) == "_places") = false := by decide +kernel
@[simp] theorem nml49 : ¬ (("name_of" : Str) = "_after") := by decide +kernel
@[simp] theorem nml49b : (("name_of" : Str) == "_after") = false := by decide +kernel
@[simp] theorem nml50 : ¬ (("least" : Str) = "_cast") := by decide +kernel
@[simp] theorem nml50b : (("least" : Str) == "_cast") = false := by decide +kernel
@[simp] theorem nml51 : ¬ (("least" : Str) = "_names") := by decide +kernel
@[simp] theorem nml51b : (("least" : Str) == "_names") = false := by decide +kernel
@[simp] theorem nml52 : ¬ (("least" : Str) = "_tables") := by decide +kernel
@[simp] theorem nml52b : (("least" : Str) == "_tables") = false := by decide +kernel
@[simp] theorem nml53 : ¬ (("least" : Str) = "_places") := by decide +kernel
@[simp] theorem nml53b : (("least" : Str) == "_places") = false := by decide +kernel
@[simp] theorem nml54 : ¬ (("least" : Str) = "_after") := by decide +kernel
@[simp] theorem nml54b : (("least" : Str) == "_after") = false := by decide +kernel
@[simp] theorem nml55 : ¬ (("behind" : Str) = "_cast") := by decide +kernel
@[simp] theorem nml55b : (("behind" : Str) == "_cast") = false := by decide +kernel
@[simp] theorem nml56 : ¬ (("behind" : Str) = "_names") := by decide +kernel
@[simp] theorem nml56b : (("behind" : Str) == "_names") = false := by decide +kernel
@[simp] theorem nml57 : ¬ (("behind" : Str) = "_tables") := by decide +kernel
@[simp] theorem nml57b : (("behind" : Str) == "_tables") = false := by decide +kernel
@[simp] theorem nml58 : ¬ (("behind" : Str) = "_places") := by decide +kernel
@[simp] theorem nml58b : (("behind" : Str) == "_places") = false := by decide +kernel
@[simp] theorem nml59 : ¬ (("behind" : Str) = "_after") := by decide +kernel
@[simp] theorem nml59b : (("behind" : Str) == "_after") = false := by decide +kernel
@[simp] theorem nml60 : ¬ (("ahead" : Str) = "_cast") := by decide +kernel
@[simp] theorem nml60b : (("ahead" : Str) == "_cast") = false := by decide +kernel
@[simp] theorem nml61 : ¬ (("ahead" : Str) = "_names") := by decide +kernel
@[simp] theorem nml61b : (("ahead" : Str) == "_names") = false := by decide +kernel
@[simp] theorem nml62 : ¬ (("ahead" : Str) = "_tables") := by decide +kernel
@[simp] theorem nml62b : (("ahead" : Str) == "_tables") = false := by decide +kernel
@[simp] theorem nml63 : ¬ (("ahead" : Str) = "_places") := by decide +kernel
@[simp] theorem nml63b : (("ahead" : Str) == "_places") = false := by decide +kernel
@[simp] theorem nml64 : ¬ (("ahead" : Str) = "_after") := by decide +kernel
@[simp] theorem nml64b : (("ahead" : Str) == "_after") = false := by decide +kernel
@[simp] theorem nml65 : ¬ (("reached" : Str) = "_cast") := by decide +kernel
@[simp] theorem nml65b : (("reached" : Str) == "_cast") = false := by decide +kernel
@[simp] theorem nml66 : ¬ (("reached" : Str) = "_names") := by decide +kernel
@[simp] theorem nml66b : (("reached" : Str) == "_names") = false := by decide +kernel
@[simp] theorem nml67 : ¬ (("reached" : Str) = "_tables") := by decide +kernel
@[simp] theorem nml67b : (("reached" : Str) == "_tables") = false := by decide +kernel
@[simp] theorem nml68 : ¬ (("reached" : Str) = "_places") := by decide +kernel
@[simp] theorem nml68b : (("reached" : Str) == "_places") = false := by decide +kernel
@[simp] theorem nml69 : ¬ (("reached" : Str) = "_after") := by decide +kernel
@[simp] theorem nml69b : (("reached" : Str) == "_after") = false := by decide +kernel
@[simp] theorem nml70 : ¬ (("rhythm" : Str) = "_cast") := by decide +kernel
@[simp] theorem nml70b : (("rhythm" : Str) == "_cast") = false := by decide +kernel
@[simp] theorem nml71 : ¬ (("rhythm" : Str) = "_names") := by decide +kernel
@[simp] theorem nml71b : (("rhythm" : Str) == "_names") = false := by decide +kernel
@[simp] theorem nml72 : ¬ (("rhythm" : Str) = "_tables") := by decide +kernel
@[simp] theorem nml72b : (("rhythm" : Str) == "_tables") = false := by decide +kernel
@[simp] theorem nml73 : ¬ (("rhythm" : Str) = "_places") := by decide +kernel
@[simp] theorem nml73b : (("rhythm" : Str) == "_places") = false := by decide +kernel
@[simp] theorem nml74 : ¬ (("rhythm" : Str) = "_after") := by decide +kernel
@[simp] theorem nml74b : (("rhythm" : Str) == "_after") = false := by decide +kernel
end Fn
namespace Fn
open PySem PySem.Spec L2 Dl Dg
/-! ## the program's lot -/
theorem valA_ix {f : List Nat → Key} {q : Key} : ∀ {L : List (List Nat)} {s : Nat}, q ∈ L.map f → valA (L.map f) ((List.range' s L.length).map nA) q = some (nA (s + L.findIdx fun y => decide (f y = q)))
  | [], s, h => nomatch h
  | x :: L, s, h => by
    show (if f x = q then some (nA s) else valA (L.map f) ((List.range' (s + 1) L.length).map nA) q) = _
    rw [List.findIdx_cons]
    by_cases e : f x = q
    · simp [e]
    · have h' : q ∈ L.map f := by
        rw [List.map_cons] at h
        exact (List.mem_cons.mp h).resolve_left fun z => e z.symm
      rw [if_neg e, valA_ix (L := L) (s := s + 1) h']
      simp [e]
      omega
section
variable {env : Dl.Env}
@[simp] theorem okText_s {t : Str} : okText (.fz (.str t)) = true := (rfl)
@[simp] theorem gPlcH_ev {f : Fl → List A → Option (Fl × A)} {g : G} {ga : Dl.Env → Option (List A × Dl.Env)} : gPlcH f g ga env = (g env).ob fun p => (getP p.2 p.1).ob fun f0 => if f0.isL then
  (ga p.2).ob fun q => (getP q.2 p.1).ob fun fl => if fl.own then (f fl q.1).om fun z => (.fz z.2, putP q.2 p.1 z.1) else none
  else none := (rfl)
@[simp] theorem gPar_ev {i j : Nat} {ga gb : G} : gPar i j ga gb env = (gS false ga env).ob fun p => (gS false gb p.2).om fun q => (.nx, (q.2.set i (fz p.1)).set j (fz q.1)) := by
  show ((gS false ga env).bind fun p => (((gS false gb p.2).bind fun q => (some ([], q.2)).map fun r => (q.1 :: r.1, r.2)).map fun r => (p.1 :: r.1, r.2))).bind _ = _
  cases gS false ga env with
  | none => rfl
  | some p =>
    show (((gS false gb p.2).bind fun q => (some ([], q.2)).map fun r => (q.1 :: r.1, r.2)).map fun r => (p.1 :: r.1, r.2)).bind _ = (gS false gb p.2).map _
    cases gS false gb p.2 with
    | none => rfl
    | some q => rfl
end
section
variable {n : Nat} {T : Nat → Rel} {ls ks : List Nat} {p : Rel} {L : List (List Nat)} {aft : List A} {most : Int} {w x : List Nat}
abbrev pK (n : Nat) (T : Nat → Rel) (p : Rel) (x : List Nat) : Key := sK (tabT n (gR n T p x))
theorem pK_iff (h1 : 1 ≤ n) (h6 : n ≤ 6) {x y : List Nat} : pK n T p x = pK n T p y ↔ alR n T p x y = true := by
  rw [sK_inj, tabT_inj h1 h6]
  exact (decide_eq_true_iff).symm
theorem pK_mem (h1 : 1 ≤ n) (h6 : n ≤ 6) : pK n T p w ∈ L.map (pK n T p) ↔ L.any (alR n T p w) = true := by
  rw [List.mem_map, List.any_eq_true]
  constructor
  · rintro ⟨y, m, e⟩
    exact ⟨y, m, (pK_iff h1 h6).mp e.symm⟩
  · rintro ⟨y, m, e⟩
    exact ⟨y, m, ((pK_iff h1 h6).mpr e).symm⟩
theorem pK_nd (h1 : 1 ≤ n) (h6 : n ≤ 6) (N : L.Pairwise fun x y => alR n T p x y = false) : (L.map (pK n T p)).Nodup := by
  rw [List.nodup_iff_pairwise_ne, List.pairwise_map]
  refine N.imp fun {a b} h e => ?_
  have := (pK_iff h1 h6).mp e
  rw [h] at this; cases this
theorem pK_find (h1 : 1 ≤ n) (h6 : n ≤ 6) : (L.findIdx fun y => decide (pK n T p y = pK n T p w)) = plc (alR n T p) L w := by
  unfold plc
  congr 1
  funext y
  rw [Bool.eq_iff_iff, decide_eq_true_eq, pK_iff h1 h6]
  exact ⟨cong_al.symm, cong_al.symm⟩
/-- a lot that is being made -/
abbrev lotI (n : Nat) (ls : List Nat) (T : Nat → Rel) (L : List (List Nat)) (aft : List A) : O := .ins 7 ["_cast", "_names", "_tables", "_places", "_after"]
  [.fz (cF n ls T), .lst (L.map sA), .lst (L.map fun x => tab n (gR n T idR x)), .dK (L.map (pK n T idR)) ((List.range L.length).map nA), .lst aft]
theorem place_get (h1 : 1 ≤ n) (h6 : n ≤ 6) (a : L.any (alR n T p w) = true) : fGet (.dK (L.map (pK n T p)) ((List.range L.length).map nA)) (sA (tabT n (gR n T p w))) = some (nA (plc (alR n T p) L w)) := by
  show (some (valA (L.map (pK n T p)) ((List.range L.length).map nA) (pK n T p w))).bind id = _
  rw [List.range_eq_range', valA_ix ((pK_mem h1 h6).mpr a), pK_find h1 h6, Nat.zero_add]
  rfl
theorem place_old (h1 : 1 ≤ n) (h6 : n ≤ 6) (a : L.any (alR n T idR w) = true) : D_Lot__place_for [lotI n ls T L aft, fz (sA w), fz (tab n (gR n T idR w)), fz (.int most)] = some (fz (nA (plc (alR n T idR) L w)), [lotI n ls T L aft, fz (sA w), fz (tab n (gR n T idR w)), fz (.int most)]) := by
  have st := str_ok (n := n) (p := gR n T idR w) h6
  have ni := notIn_s1 (t := tabT n (gR n T idR w)) (ks := L.map (pK n T idR)) (xs := (List.range L.length).map nA) (by simp) ((pK_mem h1 h6).mpr a)
  have pg := place_get (L := L) h1 h6 a
  generalize tabT n (gR n T idR w) = tt at *
  generalize gR n T idR w = q at *
  simp [D_Lot__place_for, fnD_ev, Db_Lot__place_for, st, ni, pg]
theorem place_new (h1 : 1 ≤ n) (h6 : n ≤ 6) (N : L.Pairwise fun x y => alR n T idR x y = false) (l : L.length ≤ 100000) (a : L.any (alR n T idR w) = false) (hm : (L.length : Int) < most) : D_Lot__place_for [lotI n ls T L aft, fz (sA w), fz (tab n (gR n T idR w)), fz (.int most)] = some (fz (nA L.length), [lotI n ls T (L ++ [w]) aft, fz (sA w), fz (tab n (gR n T idR w)), fz (.int most)]) := by
  have st := str_ok (n := n) (p := gR n T idR w) h6
  have no : ¬ sK (tabT n (gR n T idR w)) ∈ L.map (pK n T idR) := fun z => by
    have := (pK_mem h1 h6).mp z
    rw [a] at this; cases this
  have ni := notIn_s0 (xs := (List.range L.length).map nA) no
  have nd := pK_nd h1 h6 N
  have pz := putZ_app (q := sK (tabT n (gR n T idR w))) (a := nA L.length) (ks := L.map (pK n T idR)) (xs := (List.range L.length).map nA) (by simp) no
  have l2 : L.length < sizeLine := szl (by omega)
  have C := cong_al (n := n) (T := T) (p := idR)
  have any1 : (L ++ [w]).any (alR n T idR w) = true := List.any_eq_true.mpr ⟨w, by simp, C.refl w⟩
  have pg := place_get (L := L ++ [w]) h1 h6 any1
  have pe : plc (alR n T idR) (L ++ [w]) w = L.length := by
    unfold plc
    rw [List.findIdx_append, if_neg]
    · simp [C.refl w]
    · intro z
      have := List.findIdx_lt_length.mp z
      have : L.any (alR n T idR w) = true := by simpa using this
      rw [a] at this; cases this
  rw [pe] at pg
  have e1 : (L ++ [w]).map (pK n T idR) = L.map (pK n T idR) ++ [sK (tabT n (gR n T idR w))] := by simp
  have e2 : (List.range (L ++ [w]).length).map nA = (List.range L.length).map nA ++ [nA L.length] := by simp [List.range_succ]
  rw [e1, e2] at pg
  have hm' : ¬ most ≤ (L.length : Int) := by omega
  rw [show lotI n ls T (L ++ [w]) aft = .ins 7 ["_cast", "_names", "_tables", "_places", "_after"] [.fz (cF n ls T), .lst (L.map sA ++ [sA w]), .lst ((L.map fun x => tab n (gR n T idR x)) ++ [tab n (gR n T idR w)]), .dK (L.map (pK n T idR) ++ [sK (tabT n (gR n T idR w))]) ((List.range L.length).map nA ++ [nA L.length]), .lst aft] by
    show O.ins 7 _ _ = _
    rw [e1, e2, List.map_append, List.map_append]
    rfl]
  generalize tabT n (gR n T idR w) = tt at *
  generalize gR n T idR w = q at *
  simp [D_Lot__place_for, fnD_ev, Db_Lot__place_for, st, ni, pg, hm', nd, l2, pz]
theorem plc_new {al : List Nat → List Nat → Bool} (C : Cong al) {w : List Nat} (a : L.any (al w) = false) : plc al (L ++ [w]) w = L.length := by
  unfold plc
  rw [List.findIdx_append, if_neg]
  · simp [C.refl w]
  · intro z
    have := List.findIdx_lt_length.mp z
    have : L.any (al w) = true := by simpa using this
    rw [a] at this; cases this
theorem place_ok (h1 : 1 ≤ n) (h6 : n ≤ 6) (N : L.Pairwise fun x y => alR n T idR x y = false) (l : L.length ≤ 100000) (hm : ((bput (alR n T idR) L w).length : Int) ≤ most) : D_Lot__place_for [lotI n ls T L aft, fz (sA w), fz (tab n (gR n T idR w)), fz (.int most)] = some (fz (nA (plc (alR n T idR) (bput (alR n T idR) L w) w)), [lotI n ls T (bput (alR n T idR) L w) aft, fz (sA w), fz (tab n (gR n T idR w)), fz (.int most)]) := by
  cases a : L.any (alR n T idR w) with
  | true =>
    rw [show bput (alR n T idR) L w = L from if_pos a]
    exact place_old h1 h6 a
  | false =>
    have e : bput (alR n T idR) L w = L ++ [w] := if_neg (by rw [a]; exact Bool.false_ne_true)
    rw [e] at hm ⊢
    rw [plc_new cong_al a]
    refine place_new h1 h6 N l a ?_
    simp at hm
    omega
/-! ### the walk over all entries -/
@[simp] theorem toFl_cI {e : Dl.Env} : toFl (.ow (cI n ks T)) e = some (.fz (cF n ks T), e) := (rfl)
end
end Fn
namespace Fn
open PySem PySem.Spec L2 Dl Dg
/-! ## a lot that is too great -/
/-- whatever the one gives the other gives -/
def GLe (g g' : GS) : Prop := ∀ e r, g e = some r → g' e = some r
theorem GLe.refl {g : GS} : GLe g g := fun _ _ h => h
section
variable {n : Nat} {T : Nat → Rel} {ls ks : List Nat} {L : List (List Nat)} {aft : List A} {most : Int} {w x : List Nat}
end
end Fn
namespace Fn
open PySem PySem.Spec L2 Dl Dg
/-! ## a lot is asked -/
section
variable {n : Nat} {T : Nat → Rel} {ls ks : List Nat} {L : List (List Nat)} {w x row : List Nat}
/-- the name of a row's table -/
def nm (n : Nat) (T : Nat → Rel) (L : List (List Nat)) (w : List Nat) : List Nat := L.getD (plc (alR n T idR) L w) []
end
end Fn
namespace Fn
open PySem PySem.Spec L2 Dl Dg
section
variable {n : Nat} {T : Nat → Rel} {ls ks : List Nat} {L : List (List Nat)} {p : Rel} {w x row other : List Nat}
end
end Fn
namespace Fn
open PySem PySem.Spec L2 Dl Dg
section
variable {env : Dl.Env}
@[simp] theorem patR_nil {rs zs : List R} : patR [] rs zs = some [] := (rfl)
@[simp] theorem patR_p {i : Nat} {pat : List Src} {rs zs : List R} : patR (.p i :: pat) rs zs = (rs[i]?).ob fun r => (patR pat rs zs).om fun qs => r :: qs := (rfl)
@[simp] theorem patR_k {i : Nat} {pat : List Src} {rs zs : List R} : patR (.k i :: pat) rs zs = (zs[i]?).ob fun r => (patR pat rs zs).om fun qs => r :: qs := (rfl)
@[simp] theorem gMakeK_ev {c : Nat} {f : GF} {n m : Nat} {pat : List Src} {g gk : Dl.Env → Option (List R × Dl.Env)} : gMakeK c f n m pat g gk env = (g env).ob fun p => (gk p.2).ob fun q => if p.1.length = n ∧ q.1.length = m then (patR pat (.fz .non :: p.1) q.1).ob fun rs => makeG c f rs q.2 else none := (rfl)
@[simp] theorem bMakeK_ev {c : Nat} {b : BF} {n m : Nat} {pat : List Src} {g gk : Dl.Env → Option (List R × Dl.Env)} : bMakeK c b n m pat g gk env = (g env).ob fun p => (gk p.2).ob fun q => if p.1.length = n ∧ q.1.length = m then (patR pat (.fz .non :: p.1) q.1).ob fun rs => makeB c b rs q.2 else none := (rfl)
@[simp] theorem makeB_ev {c : Nat} {b : BF} {rs : List R} : makeB c b rs env = (callB b (.pl env.length :: rs) (env ++ [.ins c [] []])).ob fun p => (p.2[env.length]?).om fun _ => (p.1, p.2.take env.length) := (rfl)
end
section
variable {n : Nat} {T : Nat → Rel} {ls ks : List Nat} {L : List (List Nat)} {most : Int}
end
theorem Rfl.flat {a : A} {d : Nat} (h : Rfl a d) : Flat a d := let ⟨p, a, b, c, _⟩ := h; ⟨p, a, b, c⟩
end Fn
namespace Fn
open PySem PySem.Spec L2 Dl Dg
section
variable {n : Nat} {T : Nat → Rel} {ls ks : List Nat} {L : List (List Nat)}
end
@[simp] theorem fNe_b2 {a b : Bool} : fNe (.bl a) (.bl b) = some (.bl (!decide (a = b))) := by cases a <;> cases b <;> rfl
section
variable {env : Dl.Env}
@[simp] theorem bSec_ev {ga : G} {b : GB} : bSec ga b env = (ga env).ob fun p => b p.2 := (rfl)
@[simp] theorem bAlt_ev {a b : GB} : bAlt a b env = match a env with
  | some p => some p
  | none => b env := (rfl)
end
section
variable {n : Nat} {T : Nat → Rel} {ls ks : List Nat} {L : List (List Nat)}
end
end Fn
namespace Fn
open PySem PySem.Spec L2 Dl Dg
/-! ## among lists -/
/-! ## the least row of a kind -/
section
variable {al al' : List Nat → List Nat → Bool} {ls : List Nat} {L L' : List (List Nat)} {P P' : List Nat → Bool}
end
/-! ## the ways on from a row -/
section
variable {n : Nat} {T : Nat → Rel} {ls : List Nat} {p : Rel} {L : List (List Nat)}
/-! ## behind, reached -/
end
end Fn
namespace Fn
open PySem PySem.Spec L2 Dl Dg
/-! ## dicts, as they are filled -/
section
variable {ι : Type} {vs : List Nat} {h : A → Dl.Env → Option Dl.Env} {tt : Dl.Env → Option (Bool × Dl.Env)} {tk tv : Dl.Env → Option (A × Dl.Env)} {env W : Dl.Env}
end
section
variable {n : Nat} {T : Nat → Rel} {ls : List Nat} {L : List (List Nat)} {row : List Nat}
end
end Fn
namespace Fn
open PySem PySem.Spec L2 Dl Dg
section
variable {n : Nat} {T : Nat → Rel} {ls : List Nat} {L : List (List Nat)} {row other r1 r2 : List Nat} {c : Nat}
end
end Fn
namespace Fn
open PySem PySem.Spec L2 Dl Dg
section
variable {n : Nat} {T : Nat → Rel} {ls : List Nat} {L W : List (List Nat)} {row other : List Nat}
end
end Fn
namespace Fn
open PySem PySem.Spec L2 Dl Dg
/-! ## a sequence that goes on by itself comes round -/
structure Round {α : Type} (s : Nat → α) (lead N : Nat) : Prop where
  lt : lead < N
  back : s N = s lead
  ne : ∀ i j, i < j → j < N → s i ≠ s j
section
variable {α : Type} {s : Nat → α} {lead N : Nat}
theorem Round.turn (h : Round s lead N) (go : ∀ i j, s i = s j → s (i + 1) = s (j + 1)) : ∀ t, s (lead + t + (N - lead)) = s (lead + t)
  | 0 => by rw [show lead + 0 + (N - lead) = N by have := h.lt; omega]; exact h.back
  | t + 1 => by
    have := go _ _ (h.turn go t)
    rw [show lead + (t + 1) + (N - lead) = lead + t + (N - lead) + 1 by omega, this]
    rfl
theorem Round.turns (h : Round s lead N) (go : ∀ i j, s i = s j → s (i + 1) = s (j + 1)) (i : Nat) (hi : lead ≤ i) : ∀ k, s (i + k * (N - lead)) = s i
  | 0 => by simp
  | k + 1 => by
    have e := h.turn go (i - lead + k * (N - lead))
    rw [show lead + (i - lead + k * (N - lead)) = i + k * (N - lead) by omega] at e
    rw [Nat.add_mul, Nat.one_mul, ← Nat.add_assoc, e]
    exact h.turns go i hi k
theorem Round.mod (h : Round s lead N) (go : ∀ i j, s i = s j → s (i + 1) = s (j + 1)) {i : Nat} (hi : lead ≤ i) : s (lead + (i - lead) % (N - lead)) = s i := by
  have e := h.turns go (lead + (i - lead) % (N - lead)) (by omega) ((i - lead) / (N - lead))
  have d := Nat.mod_add_div (i - lead) (N - lead)
  rw [Nat.mul_comm] at d
  rw [← e]
  congr 1
  omega
/-- when two places are the same -/
theorem Round.same (h : Round s lead N) (go : ∀ i j, s i = s j → s (i + 1) = s (j + 1)) {i j : Nat} (l : i < j) (e : s i = s j) : lead ≤ i ∧ (N - lead) ∣ (j - i) := by
  have lt := h.lt
  by_cases hi : lead ≤ i
  · refine ⟨hi, ?_⟩
    have e1 := h.mod go hi
    have e2 := h.mod go (i := j) (by omega)
    have m1 := Nat.mod_lt (i - lead) (show 0 < N - lead by omega)
    have m2 := Nat.mod_lt (j - lead) (show 0 < N - lead by omega)
    have q : (i - lead) % (N - lead) = (j - lead) % (N - lead) := by
      rcases Nat.lt_trichotomy ((i - lead) % (N - lead)) ((j - lead) % (N - lead)) with z | z | z
      · exact (h.ne _ _ (show lead + (i - lead) % (N - lead) < lead + (j - lead) % (N - lead) by omega) (by omega) (by rw [e1, e2, e])).elim
      · exact z
      · exact (h.ne _ _ (show lead + (j - lead) % (N - lead) < lead + (i - lead) % (N - lead) by omega) (by omega) (by rw [e1, e2, e])).elim
    have := Nat.dvd_of_mod_eq_zero (Nat.sub_mod_eq_zero_of_mod_eq q.symm)
    rwa [show j - lead - (i - lead) = j - i by omega] at this
  · exfalso
    by_cases hj : j < N
    · exact h.ne i j l hj e
    · have e2 := h.mod go (i := j) (by omega)
      have m2 := Nat.mod_lt (j - lead) (show 0 < N - lead by omega)
      exact h.ne i (lead + (j - lead) % (N - lead)) (by omega) (by omega) (by rw [e2, e])
/-- two descriptions of one sequence are one -/
theorem Round.uniq (h : Round s lead N) {lead' N' : Nat} (h' : Round s lead' N') : N = N' ∧ lead = lead' := by
  have l1 := h.lt
  have l2 := h'.lt
  have e : N = N' := by
    rcases Nat.lt_trichotomy N N' with z | z | z
    · exact (h'.ne lead N l1 z h.back.symm).elim
    · exact z
    · exact (h.ne lead' N' l2 z h'.back.symm).elim
  subst e
  refine ⟨rfl, ?_⟩
  have b := h.back.symm.trans h'.back
  rcases Nat.lt_trichotomy lead lead' with z | z | z
  · exact (h.ne _ _ z l2 b).elim
  · exact z
  · exact (h.ne _ _ z l1 b.symm).elim
end
theorem valA_get {q : Key} {x : A} : ∀ {ks : List Key} {xs : List A} {i : Nat}, ks.Nodup → ks[i]? = some q → xs[i]? = some x → valA ks xs q = some x
  | [], _, _, _, h, _ => by simp at h
  | k :: ks, [], _, _, _, h => by simp at h
  | k :: ks, y :: xs, 0, _, h1, h2 => by
    have h1 : k = q := by simpa using h1
    have h2 : y = x := by simpa using h2
    show (if k = q then some y else valA ks xs q) = _
    rw [if_pos h1, h2]
  | k :: ks, y :: xs, i + 1, nd, h1, h2 => by
    have nd := List.nodup_cons.mp nd
    have h1 : ks[i]? = some q := by simpa using h1
    show (if k = q then some y else valA ks xs q) = _
    rw [if_neg fun z => nd.1 (by rw [z]; exact List.mem_of_getElem? h1)]
    exact valA_get nd.2 h1 (by simpa using h2)
theorem dGet {a x : A} {q : Key} {ks : List Key} {xs : List A} (h : keyA a = some q) (m : valA ks xs q = some x) : fGet (.dK ks xs) a = some x := by
  show ((keyA a).map fun q => valA ks xs q).bind id = _
  rw [h, Option.map_some, m]
  rfl
section
variable {n : Nat} {T : Nat → Rel} {ls : List Nat} {L : List (List Nat)} {w : List Nat}
/-- the row, so many times -/
def rep (k : Nat) (w : List Nat) : List Nat := (List.replicate k w).flatten
/-- the tables of the copies -/
abbrev pws (n : Nat) (p : Rel) (k : Nat) : List (List Nat) := rowsN n (powR n p k)
theorem pws_go {p : Rel} {i j : Nat} (h : pws n p i = pws n p j) : pws n p (i + 1) = pws n p (j + 1) := by
  have h := rowsN_inj.mp h
  refine rowsN_congr fun a b ha hb => ?_
  exact mulR_eqN (fun a ha b hb => h a b ha hb) EqN.refl a ha b hb
end
/-! ## list.index -/
theorem Dat.index {α : Type} {e : α → A} {P : α → Prop} {d : Nat} [DecidableEq α] (h : Dat e P d) (hd : d ≤ 60) {y : α} (py : P y) {xs : List α} (px : ∀ x ∈ xs, P x) {i : Nat} (hi : xs[i]? = some y) (no : ∀ j, j < i → xs[j]? ≠ some y) : pIndex (.lst (xs.map e)) [e y] = some (.lst (xs.map e), .int (i : Nat)) := by
  obtain ⟨g, h1, h2, h3, h4⟩ := h
  have s1 : SeqAt.shaped (g y) = true := Dat.shape h3 h4 (by omega) py
  have s2 : SeqAt.shaped (.list (xs.map g)) = true := by
    have := depAll_map h4 (xs := xs)
    unfold SeqAt.shaped
    rw [PyData.canLay0, layAll_map h3 px, PyData.depth, decide_eq_true (by omega)]; rfl
  obtain ⟨li, ei⟩ := List.getElem?_eq_some_iff.mp hi
  have fi : (xs.map g).findIdx (fun z => PyData.eqv z (g y)) = i := by
    rw [List.findIdx_eq (by simpa using li)]
    refine ⟨by rw [List.getElem_map, ei]; exact (h2 y y).mpr rfl, fun j hj => ?_⟩
    rw [List.getElem_map]
    cases c : PyData.eqv (g xs[j]) (g y) with
    | false => rfl
    | true =>
      have := (h2 _ _).mp c
      exact (no j hj (by rw [List.getElem?_eq_getElem (by omega), this])).elim
  show ((e y).toD.bind fun d => (A.toDL (xs.map e)).bind fun ds => if SeqAt.shaped d && SeqAt.shaped (.list ds) then (ixEq d ds).map fun j => (Fl.lst (xs.map e), A.int (j : Nat)) else none) = _
  rw [h1, toDL_map h1, Option.bind_some, Option.bind_some, s1, s2]
  unfold ixEq
  rw [fi]
  simp [li]
end Fn
namespace Fn
open PySem PySem.Spec L2 Dl Dg
section
variable {α : Type} {s : Nat → α}
theorem go_turns {i d : Nat} (go : ∀ i j, s i = s j → s (i + 1) = s (j + 1)) (e : s i = s (i + d)) : ∀ {k : Nat}, i ≤ k → s k = s (k + d)
  | k, h => by
    obtain ⟨t, rfl⟩ : ∃ t, k = i + t := ⟨k - i, by omega⟩
    clear h
    induction t with
    | zero => exact e
    | succ t ih =>
      have := go _ _ ih
      rw [show i + t + d + 1 = i + (t + 1) + d by omega] at this
      exact this
theorem go_times {i d : Nat} (go : ∀ i j, s i = s j → s (i + 1) = s (j + 1)) (e : s i = s (i + d)) {k : Nat} (h : i ≤ k) : ∀ m, s k = s (k + m * d)
  | 0 => by simp
  | m + 1 => by
    rw [go_times go e h m, go_turns go e (k := k + m * d) (by omega)]
    congr 1
    rw [Nat.add_mul]
    omega
/-- what comes again by some place has a first place -/
theorem round_by {i j : Nat} (l : i < j) (e : s i = s j) : ∃ lead N, N ≤ j ∧ Round s lead N := by
  have srch : ∀ k, (∀ i j, i < j → j < k → s i ≠ s j) ∨ ∃ lead N, N < k ∧ Round s lead N := fun k => by
    induction k with
    | zero => exact .inl fun i j _ h => nomatch h
    | succ k ih =>
      rcases ih with ih | ⟨lead, N, h, r⟩
      · by_cases e : ∃ i, i < k ∧ s i = s k
        · obtain ⟨i, hi, e⟩ := e
          exact .inr ⟨i, k, by omega, ⟨hi, e.symm, ih⟩⟩
        · refine .inl fun i j hij hj => ?_
          by_cases q : j = k
          · subst q
            exact fun z => e ⟨i, hij, z⟩
          · exact ih i j hij (by omega)
      · exact .inr ⟨lead, N, by omega, r⟩
  rcases srch (j + 1) with h | ⟨lead, N, h, r⟩
  · exact (h i j l (by omega) e).elim
  · exact ⟨lead, N, by omega, r⟩
end
section
variable {α : Type}
def subsA : List α → List (List α)
  | [] => [[]]
  | x :: xs => subsA xs ++ (subsA xs).map (x :: ·)
theorem subsA_len : ∀ {xs : List α}, (subsA xs).length = 2 ^ xs.length
  | [] => rfl
  | x :: xs => by
    show (subsA xs ++ (subsA xs).map (x :: ·)).length = _
    rw [List.length_append, List.length_map, subsA_len, List.length_cons, Nat.pow_succ]
    omega
theorem filter_subsA {f : α → Bool} : ∀ {xs : List α}, xs.filter f ∈ subsA xs
  | [] => List.mem_singleton.mpr rfl
  | x :: xs => by
    show _ ∈ subsA xs ++ (subsA xs).map (x :: ·)
    rw [List.filter_cons]
    split
    · exact List.mem_append_right _ (List.mem_map.mpr ⟨_, filter_subsA, rfl⟩)
    · exact List.mem_append_left _ filter_subsA
theorem nodup_le3 [BEq α] [LawfulBEq α] : ∀ {l k : List α}, l.Nodup → (∀ x ∈ l, x ∈ k) → l.length ≤ k.length
  | [], _, _, _ => Nat.zero_le _
  | a :: l, k, nd, h => by
    rw [List.nodup_cons] at nd
    have m := h a List.mem_cons_self
    have e := List.length_erase_of_mem m
    have := nodup_le3 (l := l) (k := k.erase a) nd.2 (fun x mx => by
      have ne : x ≠ a := fun z => nd.1 (z ▸ mx)
      exact (List.mem_erase_of_ne ne).mpr (h x (List.mem_cons_of_mem _ mx)))
    have : 0 < k.length := List.length_pos_of_mem m
    simp only [List.length_cons]
    omega
/-- one of so many places comes again -/
theorem again {f : Nat → α} [BEq α] [LawfulBEq α] {k : List α} (h : ∀ i, f i ∈ k) : ∃ i j, i < j ∧ j ≤ k.length ∧ f i = f j := by
  by_cases c : ∃ i j, i < j ∧ j ≤ k.length ∧ f i = f j
  · exact c
  · exfalso
    have nd : ((List.range (k.length + 1)).map f).Nodup := by
      rw [List.nodup_iff_pairwise_ne, List.pairwise_map]
      refine List.Pairwise.imp_of_mem (fun {a b} ma mb hl z => ?_) (List.pairwise_lt_range (n := k.length + 1))
      have := List.mem_range.mp mb
      exact c ⟨a, b, hl, by omega, z⟩
    have := nodup_le3 nd (k := k) fun x m => by
      obtain ⟨i, _, rfl⟩ := List.mem_map.mp m
      exact h i
    simp at this
    omega
end
section
variable {n : Nat} {p : Rel}
theorem walk_of : ∀ {k a b : Nat}, a < n → b < n → powR n p k a b = true → ∃ v : Nat → Nat, v 0 = a ∧ v k = b ∧ (∀ i, v i < n) ∧ ∀ i, i < k → p (v i) (v (i + 1)) = true
  | 0, a, b, ha, hb, h => by
    have e : a = b := by simpa [powR, idR] using h
    exact ⟨fun _ => a, rfl, e, fun _ => ha, fun i h => nomatch h⟩
  | k + 1, a, b, ha, hb, h => by
    obtain ⟨m, hm, h1, h2⟩ := mulR_iff.mp h
    obtain ⟨v, v0, vk, vl, vs⟩ := walk_of ha hm h1
    refine ⟨fun i => if i ≤ k then v i else b, ?_, ?_, fun i => ?_, fun i hi => ?_⟩
    · show (if 0 ≤ k then v 0 else b) = a
      rw [if_pos (Nat.zero_le _), v0]
    · show (if k + 1 ≤ k then v (k + 1) else b) = b
      rw [if_neg (by omega)]
    · show (if i ≤ k then v i else b) < n
      split
      · exact vl i
      · exact hb
    · show p (if i ≤ k then v i else b) (if i + 1 ≤ k then v (i + 1) else b) = true
      rw [if_pos (by omega)]
      by_cases c : i + 1 ≤ k
      · rw [if_pos c]
        exact vs i (by omega)
      · rw [if_neg c, show i = k by omega, vk]
        exact h2
theorem of_walk {v : Nat → Nat} {k : Nat} (vl : ∀ i, v i < n) (vs : ∀ i, i < k → p (v i) (v (i + 1)) = true) {i : Nat} : ∀ {j : Nat}, i + j ≤ k → powR n p j (v i) (v (i + j)) = true
  | 0, _ => by simp [powR, idR]
  | j + 1, h => mulR_iff.mpr ⟨v (i + j), vl _, of_walk vl vs (by omega), vs (i + j) (by omega)⟩
theorem pow_join {i j a b c : Nat} (ha : a < n) (hb : b < n) (hc : c < n) (h1 : powR n p i a c = true) (h2 : powR n p j c b = true) : powR n p (i + j) a b = true := by
  rw [pow_add a ha b hb]
  exact mulR_iff.mpr ⟨c, hc, h1, h2⟩
theorem pow_loop {d c : Nat} (hc : c < n) (h : powR n p d c c = true) : ∀ m, powR n p (m * d) c c = true
  | 0 => by simp [powR, idR]
  | m + 1 => by
    rw [Nat.add_mul, Nat.one_mul]
    exact pow_join hc hc hc (pow_loop hc h m) h
/-- a long way holds a round, which may be walked once more, and so often -/
theorem pump (h6 : n ≤ 6) {k a b : Nat} (ha : a < n) (hb : b < n) (hk : n ≤ k) (h : powR n p k a b = true) : powR n p (k + 60) a b = true := by
  obtain ⟨v, v0, vk, vl, vs⟩ := walk_of ha hb h
  obtain ⟨i, j, hij, hj, e⟩ := again (f := v) (k := List.range n) (fun i => List.mem_range.mpr (vl i))
  rw [List.length_range] at hj
  have w1 := of_walk vl vs (i := 0) (j := i) (by omega)
  have w2 := of_walk vl vs (i := i) (j := j - i) (by omega)
  have w3 := of_walk vl vs (i := j) (j := k - j) (by omega)
  rw [show i + (j - i) = j by omega, ← e] at w2
  rw [show j + (k - j) = k by omega, vk, ← e] at w3
  rw [Nat.zero_add, v0] at w1
  obtain ⟨m, hm⟩ : ∃ m, m * (j - i) = 60 := by
    have d : j - i = 1 ∨ j - i = 2 ∨ j - i = 3 ∨ j - i = 4 ∨ j - i = 5 ∨ j - i = 6 := by omega
    rcases d with d | d | d | d | d | d <;> rw [d]
    · exact ⟨60, rfl⟩
    · exact ⟨30, rfl⟩
    · exact ⟨20, rfl⟩
    · exact ⟨15, rfl⟩
    · exact ⟨12, rfl⟩
    · exact ⟨10, rfl⟩
  have w4 := pow_loop (vl i) w2 m
  rw [hm] at w4
  have w5 := pow_join ha hb (vl i) w1 (pow_join (vl i) hb (vl i) w4 (pow_join (vl i) hb (vl i) w2 w3))
  rwa [show i + (60 + (j - i + (k - j))) = k + 60 by omega] at w5
theorem row_go {a : Nat} (ha : a < n) {i j : Nat} (h : rowN n (powR n p i a) = rowN n (powR n p j a)) : rowN n (powR n p (i + 1) a) = rowN n (powR n p (j + 1) a) := by
  have e : ∀ b, b < n → powR n p i a b = powR n p j a b := fun b hb => by
    have m : b ∈ rowN n (powR n p i a) ↔ b ∈ rowN n (powR n p j a) := by rw [h]
    unfold rowN at m
    rw [List.mem_filter, List.mem_filter] at m
    have r := List.mem_range.mpr hb
    rw [Bool.eq_iff_iff]
    exact ⟨fun z => (m.mp ⟨r, z⟩).2, fun z => (m.mpr ⟨r, z⟩).2⟩
  refine rowN_congr fun b hb => ?_
  rw [Bool.eq_iff_iff]
  show mulR n (powR n p i) p a b = true ↔ mulR n (powR n p j) p a b = true
  rw [mulR_iff, mulR_iff]
  exact ⟨fun ⟨m, hm, x, y⟩ => ⟨m, hm, by rw [← e m hm]; exact x, y⟩, fun ⟨m, hm, x, y⟩ => ⟨m, hm, by rw [e m hm]; exact x, y⟩⟩
/-- behind place 64 a table comes again by 60 -/
theorem pow_60 (h6 : n ≤ 6) {k : Nat} (hk : 64 ≤ k) : EqN n (powR n p k) (powR n p (k + 60)) := fun a ha b hb => by
  obtain ⟨i, j, hij, hj, e⟩ := again (f := fun k => rowN n (powR n p k a)) (k := subsA (List.range n)) (fun i => filter_subsA)
  rw [subsA_len, List.length_range] at hj
  have h2 : 2 ^ n ≤ 64 := Nat.pow_le_pow_right (by decide) h6
  rw [Bool.eq_iff_iff]
  refine ⟨pump h6 ha hb (by omega), fun h => ?_⟩
  have up : ∀ t, powR n p (k + 60 + t * 60) a b = true := fun t => by
    induction t with
    | zero => simpa using h
    | succ t ih =>
      have := pump h6 ha hb (by omega) ih
      rwa [show k + 60 + t * 60 + 60 = k + 60 + (t + 1) * 60 by omega] at this
  obtain ⟨d, hd⟩ : ∃ d, j = i + d := ⟨j - i, by omega⟩
  subst hd
  have t := go_times (s := fun k => rowN n (powR n p k a)) (fun i j => row_go ha) e (k := k) (by omega) 60
  have t : rowN n (powR n p k a) = rowN n (powR n p (k + 60 * d) a) := t
  have u := up (d - 1)
  rw [show k + 60 + (d - 1) * 60 = k + 60 * d by omega] at u
  have m : b ∈ rowN n (powR n p (k + 60 * d) a) := List.mem_filter.mpr ⟨List.mem_range.mpr hb, u⟩
  rw [← t] at m
  exact (List.mem_filter.mp m).2
/-- the tables of the copies come round -/
theorem round_pw (h6 : n ≤ 6) : ∃ lead N, N ≤ 124 ∧ Round (pws n p) lead N :=
  round_by (i := 64) (j := 124) (by decide) (rowsN_congr fun a b ha hb => pow_60 h6 (by decide) a ha b hb)
end
end Fn
namespace Fn
open PySem PySem.Spec L2 Dl Dg
section
variable {n : Nat} {p : Rel}
theorem rep_none {x : Int} (hx : x < 0) : D_Table_repeated [fz (tab n p), fz (.int x)] = none := by
  have ra : okRa [1] [fz (tab n p), fz (.int x)] = true := rfl
  simp [D_Table_repeated, fnD_ev, Db_Table_repeated, hx, ra]
theorem rep_er {x : Int} (hx : x < 0) (lg : x.natAbs.log2 < 1920) : X_Table_repeated [fz (tab n p), fz (.int x)] = some (⟨4, [.int x]⟩, [fz (tab n p), fz (.int x)]) := by
  have no := rep_none (n := n) (p := p) hx
  have ra : okRa [1] [fz (tab n p), fz (.int x)] = true := rfl
  have pr : PrA (.int x) := lg
  simp [X_Table_repeated, fnB_ev, Xb_Table_repeated, hx, ra, pr, eF4]
theorem count_error_ok {x : Int} (hx : x < 0) (lg : x.natAbs.log2 < 1920) : D__law_count_error [fz (tab n p), fz (.int x)] = some (ow [.int x, .bl true], [fz (tab n p), fz (.int x)]) := by
  have d0 := rep_none (n := n) (p := p) hx
  have x1 := rep_er (n := n) (p := p) hx lg
  rw [D__law_count_error, fnT_ev]
  have b : Dq__law_count_error [fz (tab n p), fz (.int x), .un] = some (.er ⟨4, [.int x]⟩, [fz (tab n p), fz (.int x), .un]) := by
    unfold Dq__law_count_error
    simp [d0, x1]
  rw [if_pos ⟨rfl, rfl⟩]
  show (Dq__law_count_error [fz (tab n p), fz (.int x), .un]).ob _ = _
  rw [b]
  rfl
theorem eqD_ib {x : Int} : fEqD (.lst [.int x, .bl true]) (.lst [.int x, .bl true]) = some (.bl true) := eqD_rfl (d := 1) (rfl_lst fun x m => by
  simp only [List.mem_cons, List.not_mem_nil, or_false] at m
  rcases m with rfl | rfl
  · exact rfl_int
  · exact rfl_bl) (by decide)
/-! ## the law's copies -/
abbrev pL (n : Nat) (p : Rel) (k : Nat) : O := ow ((List.range k).map fun i => LL (pws n p i))
abbrev pD (n : Nat) (p : Rel) (k : Nat) : O := .fl (.dK ((List.range k).map fun i => sK (rowsT (pws n p i))) ((List.range k).map nA))
theorem pKey (h6 : n ≤ 6) {i j : Nat} : sK (rowsT (pws n p i)) = sK (rowsT (pws n p j)) ↔ pws n p i = pws n p j := by
  rw [sK_inj]
  exact rowsT_N h6
theorem power_step (h6 : n ≤ 6) {lead N c k : Nat} (R : Round (pws n p) lead N) (l : N ≤ 190) (hk : k + 1 < N) {s5 s6 : O} :
    Dl__law_power_1 [fz (LL (rowsN n p)), fz (nA c), pL n p (k + 1), pD n p (k + 1), fz (nA k), s5, s6] = some (.nx, [fz (LL (rowsN n p)), fz (nA c), pL n p (k + 2), pD n p (k + 2), fz (nA k), fz (LL (pws n p (k + 1))), s6]) := by
  have j := join_ok (n := n) (p := powR n p k) (q := p) h6
  have st := strD_rowsN (n := n) (p := powR n p (k + 1)) h6
  have st : fStrD (LL (rowsN n (mulR n (powR n p k) p))) = some (sA (rowsT (rowsN n (mulR n (powR n p k) p)))) := st
  have m : sK (rowsT (pws n p (k + 1))) ∉ (List.range (k + 1)).map fun i => sK (rowsT (pws n p i)) := fun z => by
    obtain ⟨i, mi, e⟩ := List.mem_map.mp z
    exact R.ne i (k + 1) (List.mem_range.mp mi) hk ((pKey h6).mp e)
  have ni := isIn_s0 (t := rowsT (pws n p (k + 1))) (xs := (List.range (k + 1)).map nA) m
  have ni : fDIn (sA (rowsT (rowsN n (mulR n (powR n p k) p)))) (.dK ((List.range (k + 1)).map fun i => sK (rowsT (pws n p i))) ((List.range (k + 1)).map nA)) = some (.bl false) := ni
  have nd : ((List.range (k + 1)).map fun i => sK (rowsT (pws n p i))).Nodup := by
    rw [List.nodup_iff_pairwise_ne, List.pairwise_map]
    refine List.Pairwise.imp_of_mem (fun {a b} ma mb h z => ?_) (List.pairwise_lt_range (n := k + 1))
    have := List.mem_range.mp mb
    exact R.ne a b h (by omega) ((pKey h6).mp z)
  have pz := putZ_app (q := sK (rowsT (pws n p (k + 1)))) (a := nA (k + 1)) (ks := (List.range (k + 1)).map fun i => sK (rowsT (pws n p i))) (xs := (List.range (k + 1)).map nA) (by simp) m
  have pz : putZ ((List.range (k + 1)).map fun i => sK (rowsT (pws n p i))) ((List.range (k + 1)).map nA) (.inr (S (rowsT (rowsN n (mulR n (powR n p k) p))))) (.int ((k : Int) + 1)) = _ := pz
  have at1 : ((List.range (k + 1)).map fun i => LL (pws n p i))[k]? = some (LL (rowsN n (powR n p k))) := by
    rw [List.getElem?_map, List.getElem?_range (by omega), Option.map_some]
  have ll : ((List.range (k + 1)).map fun i => LL (pws n p i)).length = k + 1 := by simp
  have lz : k + 1 < sizeLine := szl (by omega)
  have lk : ((List.range (k + 1)).map fun i => sK (rowsT (pws n p i))).length < sizeLine := by simpa using lz
  have at1' : ∀ h, ((List.range (k + 1)).map fun i => LL (pws n p i))[k]'h = LL (rowsN n (powR n p k)) := fun h => by
    rw [List.getElem?_eq_getElem h] at at1; exact Option.some.inj at1
  unfold pL pD
  rw [List.range_succ (n := k + 1), List.map_append, List.map_append, List.map_append, List.map_singleton, List.map_singleton, List.map_singleton]
  generalize (List.range (k + 1)).map (fun i => LL (pws n p i)) = PL at *
  generalize (List.range (k + 1)).map (fun i => sK (rowsT (pws n p i))) = KS at *
  generalize (List.range (k + 1)).map nA = XS at *
  simp [Dl__law_power_1, at1', j, st, ni, ll, nd, lz, lk, pz]
  rfl
theorem power_last (h6 : n ≤ 6) {lead N c k : Nat} (R : Round (pws n p) lead N) (l : N ≤ 190) (hk : k + 1 = N) {s5 s6 : O} :
    ∃ c' t, Dl__law_power_1 [fz (LL (rowsN n p)), fz (nA c), pL n p (k + 1), pD n p (k + 1), fz (nA k), s5, s6] = some (.rt (fz (LL (pws n p c))), fz (LL (rowsN n p)) :: fz (nA c') :: t) := by
  have j := join_ok (n := n) (p := powR n p k) (q := p) h6
  have st := strD_rowsN (n := n) (p := powR n p (k + 1)) h6
  have st : fStrD (LL (rowsN n (mulR n (powR n p k) p))) = some (sA (rowsT (rowsN n (mulR n (powR n p k) p)))) := st
  have lt := R.lt
  have nd : ((List.range (k + 1)).map fun i => sK (rowsT (pws n p i))).Nodup := by
    rw [List.nodup_iff_pairwise_ne, List.pairwise_map]
    refine List.Pairwise.imp_of_mem (fun {a b} ma mb h z => ?_) (List.pairwise_lt_range (n := k + 1))
    have := List.mem_range.mp mb
    exact R.ne a b h (by omega) ((pKey h6).mp z)
  have bk : pws n p (k + 1) = pws n p lead := by rw [hk]; exact R.back
  have m : sK (rowsT (pws n p (k + 1))) ∈ (List.range (k + 1)).map fun i => sK (rowsT (pws n p i)) := List.mem_map.mpr ⟨lead, List.mem_range.mpr (by omega), (pKey h6).mpr bk.symm⟩
  have ni := isIn_s1 (t := rowsT (pws n p (k + 1))) (xs := (List.range (k + 1)).map nA) (by simp) m
  have ni : fDIn (sA (rowsT (rowsN n (mulR n (powR n p k) p)))) (.dK ((List.range (k + 1)).map fun i => sK (rowsT (pws n p i))) ((List.range (k + 1)).map nA)) = some (.bl true) := ni
  have gk := dGet (a := sA (rowsT (pws n p (k + 1)))) (q := sK (rowsT (pws n p (k + 1)))) (ks := (List.range (k + 1)).map fun i => sK (rowsT (pws n p i))) (xs := (List.range (k + 1)).map nA) (x := nA lead) rfl (valA_get (i := lead) nd (by
    rw [List.getElem?_map, List.getElem?_range (by omega), Option.map_some, (pKey h6).mpr bk]) (by
    rw [List.getElem?_map, List.getElem?_range (by omega), Option.map_some]))
  have gk : fGet (.dK ((List.range (k + 1)).map fun i => sK (rowsT (pws n p i))) ((List.range (k + 1)).map nA)) (sA (rowsT (rowsN n (mulR n (powR n p k) p)))) = some (nA lead) := gk
  have at1 : ((List.range (k + 1)).map fun i => LL (pws n p i))[k]? = some (LL (rowsN n (powR n p k))) := by
    rw [List.getElem?_map, List.getElem?_range (by omega), Option.map_some]
  have ll : ((List.range (k + 1)).map fun i => LL (pws n p i)).length = k + 1 := by simp
  have atc : ∀ i, i < k + 1 → ((List.range (k + 1)).map fun i => LL (pws n p i))[i]? = some (LL (pws n p i)) := fun i hi => by
    rw [List.getElem?_map, List.getElem?_range hi, Option.map_some]
  have at1' : ∀ h, ((List.range (k + 1)).map fun i => LL (pws n p i))[k]'h = LL (rowsN n (powR n p k)) := fun h => by
    rw [List.getElem?_eq_getElem h] at at1; exact Option.some.inj at1
  unfold pL pD
  by_cases cc : lead ≤ c
  · have ci : (lead : Int) ≤ (c : Int) := by omega
    obtain ⟨per, hper⟩ : ∃ per, per = N - lead := ⟨_, rfl⟩
    have pi : (k : Int) + 1 - (lead : Int) = (per : Int) := by omega
    have pp : 0 < per := by omega
    have e : (lead : Int) + ((c : Int) - (lead : Int)) % (per : Int) = ((lead + (c - lead) % per : Nat) : Int) := by
      rw [show (c : Int) - (lead : Int) = ((c - lead : Nat) : Int) by omega, ← Int.natCast_emod]
      omega
    have ml := Nat.mod_lt (c - lead) pp
    have same := R.mod (fun i j h => pws_go h) cc
    rw [← hper] at same
    have atx := atc (lead + (c - lead) % per) (by omega)
    rw [same] at atx
    have atx' : ∀ h, ((List.range (k + 1)).map fun i => LL (pws n p i))[lead + (c - lead) % per]'h = LL (pws n p c) := fun h => by
      rw [List.getElem?_eq_getElem h] at atx; exact Option.some.inj atx
    have zl : lead + (c - lead) % per < k + 1 := by omega
    generalize lead + (c - lead) % per = z at *
    generalize (List.range (k + 1)).map (fun i => LL (pws n p i)) = PL at *
    generalize (List.range (k + 1)).map (fun i => sK (rowsT (pws n p i))) = KS at *
    generalize (List.range (k + 1)).map nA = XS at *
    refine ⟨z, [ow PL, .fl (.dK KS XS), fz (nA k), fz (LL (pws n p (k + 1))), fz (nA lead)], ?_⟩
    simp [Dl__law_power_1, at1', j, st, ni, ll, gk, ci, pi, pp, e, atx', zl]
    rfl
  · have ci : ¬ (lead : Int) ≤ (c : Int) := by omega
    have atx := atc c (by omega)
    have atx' : ∀ h, ((List.range (k + 1)).map fun i => LL (pws n p i))[c]'h = LL (pws n p c) := fun h => by
      rw [List.getElem?_eq_getElem h] at atx; exact Option.some.inj atx
    have zl : c < k + 1 := by omega
    generalize (List.range (k + 1)).map (fun i => LL (pws n p i)) = PL at *
    generalize (List.range (k + 1)).map (fun i => sK (rowsT (pws n p i))) = KS at *
    generalize (List.range (k + 1)).map nA = XS at *
    refine ⟨c, [ow PL, .fl (.dK KS XS), fz (nA k), fz (LL (pws n p (k + 1))), fz (nA lead)], ?_⟩
    simp [Dl__law_power_1, at1', j, st, ni, ll, gk, ci, atx', zl]
    rfl
theorem power_loop (h6 : n ≤ 6) {lead N c : Nat} (R : Round (pws n p) lead N) (l : N ≤ 190) : ∀ {r k m : Nat} {s4 s5 s6 : O}, N = k + 1 + r → r < m → ∃ c' t, loopG (hName 4) Dl__law_power_1 ((List.range' k m).map nA) [fz (LL (rowsN n p)), fz (nA c), pL n p (k + 1), pD n p (k + 1), s4, s5, s6] = some (.rt (fz (LL (pws n p c))), fz (LL (rowsN n p)) :: fz (nA c') :: t)
  | r, k, 0, _, _, _, _, h => nomatch h
  | 0, k, m + 1, s4, s5, s6, e, h => by
    obtain ⟨c', t, b⟩ := power_last (c := c) h6 R l (k := k) (by omega) (s5 := s5) (s6 := s6)
    refine ⟨c', t, ?_⟩
    rw [List.range'_succ, List.map_cons, loopG_cons (e1 := [fz (LL (rowsN n p)), fz (nA c), pL n p (k + 1), pD n p (k + 1), fz (nA k), s5, s6]) rfl, b]
    rfl
  | r + 1, k, m + 1, s4, s5, s6, e, h => by
    obtain ⟨c', t, b⟩ := power_loop (c := c) h6 R l (r := r) (k := k + 1) (m := m) (s4 := fz (nA k)) (s5 := fz (LL (pws n p (k + 1)))) (s6 := s6) (by omega) (by omega)
    refine ⟨c', t, ?_⟩
    rw [List.range'_succ, List.map_cons, loopG_cons (e1 := [fz (LL (rowsN n p)), fz (nA c), pL n p (k + 1), pD n p (k + 1), fz (nA k), s5, s6]) rfl, power_step h6 R l (by omega)]
    exact b
theorem power_ok (h6 : n ≤ 6) {c : Nat} : D__law_power [fz (LL (rowsN n p)), fz (nA c)] = some (fz (LL (pws n p c)), [fz (LL (rowsN n p)), fz (nA c)]) := by
  obtain ⟨lead, N, lN, R⟩ := round_pw (n := n) (p := p) h6
  have lt := R.lt
  obtain ⟨c', t, lp⟩ := power_loop (c := c) h6 R (by omega) (r := N - 1) (k := 0) (m := 200) (s4 := .un) (s5 := .un) (s6 := .un) (by omega) (by omega)
  rw [← List.range_eq_range'] at lp
  have lp : loopG (hName 4) Dl__law_power_1 ((List.range 200).map nA) [fz (LL (rowsN n p)), fz (nA c), ow [LL (rowsN n idR)], .fl (.dK [sK (rowsT (rowsN n idR))] [.int 0]), .un, .un, .un] = some (.rt (fz (LL (pws n p c))), fz (LL (rowsN n p)) :: fz (nA c') :: t) := lp
  have ss := lsame_ok (n := n) h6
  have st := strD_rowsN (n := n) (p := idR) h6
  have ra : okRa [1] [fz (LL (rowsN n p)), fz (nA c)] = true := rfl
  have l1 : 1 ≤ sizeLine := sz (by decide)
  have ll : (rowsN n p).length = n := rows_len
  have it : rgK (A.int 200, [fz (LL (rowsN n p)), fz (nA c), ow [A.lst (List.map nL (rowsN n idR))], O.fl (Fl.dK [sK (rowsT (rowsN n idR))] [A.int 0]), .un, .un, .un]) = some ((List.range 200).map nA, [fz (LL (rowsN n p)), fz (nA c), ow [A.lst (List.map nL (rowsN n idR))], O.fl (Fl.dK [sK (rowsT (rowsN n idR))] [A.int 0]), .un, .un, .un]) := rgK_nat (n := 200) (.of (by decide))
  generalize (List.range 200).map nA = XS at *
  have ss' : D__law_same_rows [fz (nA (rowsN n p).length)] = some (ow ((rowsN n idR).map nL), [fz (nA (rowsN n p).length)]) := by rw [ll]; exact ss
  simp [D__law_power, fnD_ev, Db__law_power, ss', ss, l1, ll, st, ra, lp, it, dispK_one]
end
end Fn
namespace Fn
open PySem PySem.Spec L2 Dl Dg
/-- the law keeps -/
theorem law_k07 (cs : List Int) (pos : ∀ c ∈ cs, 0 ≤ c) : ∃ env', Dr_law_k07 (.un :: .fl (.lst [.lst (cs.map A.int), .int 0, .int 0, .int 0]) :: List.replicate 7 .un) = some (.rt (.fl (.fz (.bl true))), env') := by
  obtain ⟨b0, ob0, eb⟩ := start_box (cs := cs) pos
  rw [eb]
  obtain ⟨r1, b1, hr1, ob1, e1⟩ := take_x (b := b0) 6 6 rfl ob0 (by decide) (by decide)
  obtain ⟨n, hn, h1, h6⟩ : ∃ n : Nat, (1 + (r1 : Int)) = (n : Int) ∧ 1 ≤ n ∧ n ≤ 6 := ⟨1 + r1, by omega, by omega, by omega⟩
  obtain ⟨p, b2, ob2, _, e2⟩ := lrows_ok (b := b1) (n := n) (k := 0) rfl ob1 h1 h6 (by omega)
  have e2 : D__law_rows [bx b1, fz (nA n), fz (.int 0)] = some (ow ((rowsN n p).map nL), [bx b2, fz (nA n), fz (.int 0)]) := e2
  obtain ⟨kd, b3, hkd, ob3, e3⟩ := take_x (b := b2) 3 3 rfl ob2 (by decide) (by decide)
  obtain ⟨c0, b4, hc0, ob4, e4⟩ := take_x (b := b3) 12 12 rfl ob3 (by decide) (by decide)
  have c1 : Dc_law_k07_1 [.un, bx b2, fz (nA n), fz (LL (rowsN n p)), .un, .un, .un, .un, .un] = some (.ow (ow ((rowsN n p).map nL)), [.un, bx b2, fz (nA n), fz (LL (rowsN n p)), .un, .un, .un, .un, .un]) := by
    unfold Dc_law_k07_1
    exact gComp_all nL nL (by simp) (by simp [offE]) (fun r m => by simp [cstep]) (sz (by rw [rows_len]; omega))
  have mk := mk_rows (p := p) h1 h6
  unfold Dr_law_k07
  refine ex_seq (e1 := [.un, bx b1, fz (nA n), .un, .un, .un, .un, .un, .un]) (by simp [e1, hn]) ?_
  refine ex_seq (e1 := [.un, bx b2, fz (nA n), fz (LL (rowsN n p)), .un, .un, .un, .un, .un]) (by simp [e2]) ?_
  refine ex_seq (e1 := [.un, bx b2, fz (nA n), fz (LL (rowsN n p)), fz (tab n p), .un, .un, .un, .un]) (by simp [c1, mk]) ?_
  refine ex_seq (e1 := [.un, bx b3, fz (nA n), fz (LL (rowsN n p)), fz (tab n p), fz (nA kd), .un, .un, .un]) (by simp [e3]) ?_
  refine ex_seq (e1 := [.un, bx b4, fz (nA n), fz (LL (rowsN n p)), fz (tab n p), fz (nA kd), fz (nA c0), .un, .un]) (by simp [e4]) ?_
  clear e1 e2 e3 e4 c1 mk
  have cp40 : CPow 10 40 := by unfold CPow; decide
  have cp30 : CPow 10 30 := by unfold CPow; decide
  have cp39 : CPow 10 39 := by unfold CPow; decide
  refine ex_P (fun e => ∃ (b : Box) (c : Nat), b.ok ∧ e = [.un, bx b, fz (nA n), fz (LL (rowsN n p)), fz (tab n p), fz (nA kd), fz (nA c), .un, .un]) ?_ ?_
  · by_cases c : kd = 1
    · obtain ⟨c1, b5, hc1, ob5, e5⟩ := take_x (b := b4) 10000000000000000000000000000000000000000 10000000000000000000000000000000000000000 rfl ob4 (by decide) (by decide)
      have ci : (kd : Int) = 1 := by omega
      exact ⟨_, ⟨b5, c1, ob5, rfl⟩, by simp [ci, e5, cp40]⟩
    · have ci : ¬ (kd : Int) = 1 := by omega
      exact ⟨_, ⟨b4, c0, ob4, rfl⟩, by simp [ci]⟩
  rintro e ⟨b5, c1, ob5, rfl⟩
  refine ex_P (fun e => ∃ (c : Nat), e = [.un, bx b5, fz (nA n), fz (LL (rowsN n p)), fz (tab n p), fz (nA kd), fz (nA c), .un, .un]) ?_ ?_
  · by_cases c : kd = 2
    · have ci : (kd : Int) = 2 := by omega
      obtain ⟨c2, hc2⟩ : ∃ c2 : Nat, (1000000000000000000000000000000 : Int) + (c1 : Int) = (c2 : Int) := ⟨1000000000000000000000000000000 + c1, by omega⟩
      exact ⟨_, ⟨c2, rfl⟩, by simp [ci, cp30, hc2]⟩
    · have ci : ¬ (kd : Int) = 2 := by omega
      exact ⟨_, ⟨c1, rfl⟩, by simp [ci]⟩
  rintro e ⟨c, rfl⟩
  obtain ⟨os, rp, rfl⟩ := repeated_ok (n := n) (p := p) (k := c) h1 h6
  obtain ⟨os, rp0, rfl⟩ := repeated_ok (n := n) (p := p) (k := 0) h1 h6
  obtain ⟨os, rp1, rfl⟩ := repeated_ok (n := n) (p := p) (k := 1) h1 h6
  have rp0 : D_Table_repeated [fz (tab n p), fz (.int 0)] = some (fz (tab n idR), [fz (tab n p), fz (.int 0)]) := rp0
  rw [show tab n (powR n p 1) = tab n p from tab_eqN one_mul] at rp1
  have rp1 : D_Table_repeated [fz (tab n p), fz (.int 1)] = some (fz (tab n p), [fz (tab n p), fz (.int 1)]) := rp1
  have pw := power_ok (n := n) (p := p) (c := c) h6
  have sm := same_ok (n := n) (p := powR n p c) h6
  have sm1 := same_ok (n := n) (p := p) h6
  have sm0 := same_ok (n := n) (p := idR) h6
  have ss := lsame_ok (n := n) h6
  refine ex_seq (e1 := [.un, bx b5, fz (nA n), fz (LL (rowsN n p)), fz (tab n p), fz (nA kd), fz (nA c), .un, .un]) (by simp [rp, pw, sm]) ?_
  refine ex_seq (e1 := [.un, bx b5, fz (nA n), fz (LL (rowsN n p)), fz (tab n p), fz (nA kd), fz (nA c), .un, .un]) (by simp [rp0, rp1, sm0, sm1, ss]) ?_
  obtain ⟨r6, b6, hr6, ob6, e6⟩ := take_x (b := b5) 1000000000000000000000000000000000000000 1000000000000000000000000000000000000000 rfl ob5 (by decide) (by decide)
  obtain ⟨x, hx⟩ : ∃ x : Int, x = -1 - (r6 : Int) := ⟨_, rfl⟩
  refine ex_seq (e1 := [.un, bx b6, fz (nA n), fz (LL (rowsN n p)), fz (tab n p), fz (nA kd), fz (nA c), fz (.int x), .un]) (by simp [e6, cp39, hx]) ?_
  have x0 : x < 0 := by omega
  have lg : x.natAbs.log2 < 1920 := by
    have : x.natAbs.log2 < 130 := (Nat.log2_lt (by omega)).mpr (by omega)
    omega
  have ce := count_error_ok (n := n) (p := p) x0 lg
  have eq := eqD_ib (x := x)
  have l2 : 2 ≤ sizeLine := sz (by decide)
  refine ⟨[.un, bx b6, fz (nA n), fz (LL (rowsN n p)), fz (tab n p), fz (nA kd), fz (nA c), fz (.int x), .un], ?_⟩
  simp [ce, eq, sm1, l2]
end Fn
namespace Dg
open PySem PySem.Spec L2 Dl
section
open Eb
variable {P : Program} {w : World} {K : PySem.W.Frag} {mg : Str → Option Value} {base : Heap}
theorem scBadSizeI : NdefX.NScope ["self", "size", "__class__"] ["self", "size"] ["__class__"] (defScope sBadSizeI) := NdefX.nscope_by (by decide +kernel)
theorem ok_BadSizeI {f C : Addr} {fd : FuncData} (F : ErT P K mg C "BadSize.__init__" sBadSizeI f fd) (hno0 : PySem.W.findIn K (.ref C) "size" = some none) : FnOk P w K mg base CX0 1 f fd ["self", "size"] (spEr C ["size"]) := by
  obtain ⟨oc, ccl, cl, od, cdd, cld, an, osl, ccs, csl, cda, cc, kV, doc, pm, ct, vs0, file, tf, rfl, lk, hcd, hcode, hvs, hfile, hcell⟩ := F.ex
  refine SupX.fn_sup F.U lk hcd hcode hvs hfile hcell scBadSizeI rfl rfl rfl (fun env => ⟨_, rfl⟩) (fun env => rfl) (fun env => rfl) (fun vs H Q E h => ?_) (fun A outer s H vs Q E hr h => ?_)
  · obtain ⟨a, xs, rfl, hl, _⟩ := h
    show xs.length + 1 = _
    rw [hl]
    rfl
  · obtain ⟨a, xs, rfl, hl, hp, ha, q⟩ := h
    match xs, hl with
    | [x0], _ =>
      refine ⟨a, _, _, rfl, ha, pa_cons (pe_joined (.cons pe_str (.cons (pe_fmt (pv 1)) (.cons pe_str .nil)))) pa_nil, (pss_one (ps_ost (pv 0) (pv 1))), ?_⟩
      rcases hp x0 (by simp) with ⟨i0, rfl, h0⟩ | ⟨y0, rfl, h0⟩
      ·
        refine ⟨_, rfl, ?_, ⟨_, rfl, .inr ⟨i0, rfl, h0, _, rfl, ?_, ⟨_, rfl, ?_, ?_⟩⟩⟩⟩
        · exact Nat.le_trans (cat_le (k := 200) (show (Str.empty).length ≤ 0 from Nat.le_refl _) (show Str.length _ ≤ 200 by decide) (by decide)) (by decide)
        · exact Nat.le_trans (cat_le (k := 2121) (cat_le (k := 200) (show (Str.empty).length ≤ 0 from Nat.le_refl _) (show Str.length _ ≤ 200 by decide) (by decide)) (int_le h0) (by decide)) (by decide)
        · exact Nat.le_trans (cat_le (k := 2321) (cat_le (k := 2121) (cat_le (k := 200) (show (Str.empty).length ≤ 0 from Nat.le_refl _) (show Str.length _ ≤ 200 by decide) (by decide)) (int_le h0) (by decide)) (show Str.length _ ≤ 200 by decide) (by decide)) (by decide)
        · exact ⟨by show 1 ≤ 1000; decide, ha, _, rfl, _, rfl, a, C, rfl, F.U.T, hno0, .inl ⟨ha, fun dx h1 h2 => q _ dx h1 h2 (fun b n1 n2 => by rw [upd_ne n1, upd_ne n2]) upd_same (by rw [upd_ne h2, upd_same]; rfl)⟩⟩
      ·
        refine ⟨_, rfl, ?_, ⟨_, rfl, .inl ⟨y0, rfl, str_le (Nat.le_trans h0 (by decide)), _, rfl, ?_, ⟨_, rfl, ?_, ?_⟩⟩⟩⟩
        · exact Nat.le_trans (cat_le (k := 200) (show (Str.empty).length ≤ 0 from Nat.le_refl _) (show Str.length _ ≤ 200 by decide) (by decide)) (by decide)
        · exact Nat.le_trans (cat_le (k := 2121) (cat_le (k := 200) (show (Str.empty).length ≤ 0 from Nat.le_refl _) (show Str.length _ ≤ 200 by decide) (by decide)) h0 (by decide)) (by decide)
        · exact Nat.le_trans (cat_le (k := 2321) (cat_le (k := 2121) (cat_le (k := 200) (show (Str.empty).length ≤ 0 from Nat.le_refl _) (show Str.length _ ≤ 200 by decide) (by decide)) h0 (by decide)) (show Str.length _ ≤ 200 by decide) (by decide)) (by decide)
        · exact ⟨by show 1 ≤ 1000; decide, ha, _, rfl, _, rfl, a, C, rfl, F.U.T, hno0, .inl ⟨ha, fun dx h1 h2 => q _ dx h1 h2 (fun b n1 n2 => by rw [upd_ne n1, upd_ne n2]) upd_same (by rw [upd_ne h2, upd_same]; rfl)⟩⟩
theorem scBadTableI : NdefX.NScope ["self", "index", "__class__"] ["self", "index"] ["__class__"] (defScope sBadTableI) := NdefX.nscope_by (by decide +kernel)
theorem ok_BadTableI {f C : Addr} {fd : FuncData} (F : ErT P K mg C "BadTable.__init__" sBadTableI f fd) (hno0 : PySem.W.findIn K (.ref C) "index" = some none) : FnOk P w K mg base CX0 1 f fd ["self", "index"] (spEr C ["index"]) := by
  obtain ⟨oc, ccl, cl, od, cdd, cld, an, osl, ccs, csl, cda, cc, kV, doc, pm, ct, vs0, file, tf, rfl, lk, hcd, hcode, hvs, hfile, hcell⟩ := F.ex
  refine SupX.fn_sup F.U lk hcd hcode hvs hfile hcell scBadTableI rfl rfl rfl (fun env => ⟨_, rfl⟩) (fun env => rfl) (fun env => rfl) (fun vs H Q E h => ?_) (fun A outer s H vs Q E hr h => ?_)
  · obtain ⟨a, xs, rfl, hl, _⟩ := h
    show xs.length + 1 = _
    rw [hl]
    rfl
  · obtain ⟨a, xs, rfl, hl, hp, ha, q⟩ := h
    match xs, hl with
    | [x0], _ =>
      refine ⟨a, _, _, rfl, ha, pa_cons (pe_joined (.cons pe_str (.cons (pe_fmt (pv 1)) (.cons pe_str .nil)))) pa_nil, (pss_one (ps_ost (pv 0) (pv 1))), ?_⟩
      rcases hp x0 (by simp) with ⟨i0, rfl, h0⟩ | ⟨y0, rfl, h0⟩
      ·
        refine ⟨_, rfl, ?_, ⟨_, rfl, .inr ⟨i0, rfl, h0, _, rfl, ?_, ⟨_, rfl, ?_, ?_⟩⟩⟩⟩
        · exact Nat.le_trans (cat_le (k := 200) (show (Str.empty).length ≤ 0 from Nat.le_refl _) (show Str.length _ ≤ 200 by decide) (by decide)) (by decide)
        · exact Nat.le_trans (cat_le (k := 2121) (cat_le (k := 200) (show (Str.empty).length ≤ 0 from Nat.le_refl _) (show Str.length _ ≤ 200 by decide) (by decide)) (int_le h0) (by decide)) (by decide)
        · exact Nat.le_trans (cat_le (k := 2321) (cat_le (k := 2121) (cat_le (k := 200) (show (Str.empty).length ≤ 0 from Nat.le_refl _) (show Str.length _ ≤ 200 by decide) (by decide)) (int_le h0) (by decide)) (show Str.length _ ≤ 200 by decide) (by decide)) (by decide)
        · exact ⟨by show 1 ≤ 1000; decide, ha, _, rfl, _, rfl, a, C, rfl, F.U.T, hno0, .inl ⟨ha, fun dx h1 h2 => q _ dx h1 h2 (fun b n1 n2 => by rw [upd_ne n1, upd_ne n2]) upd_same (by rw [upd_ne h2, upd_same]; rfl)⟩⟩
      ·
        refine ⟨_, rfl, ?_, ⟨_, rfl, .inl ⟨y0, rfl, str_le (Nat.le_trans h0 (by decide)), _, rfl, ?_, ⟨_, rfl, ?_, ?_⟩⟩⟩⟩
        · exact Nat.le_trans (cat_le (k := 200) (show (Str.empty).length ≤ 0 from Nat.le_refl _) (show Str.length _ ≤ 200 by decide) (by decide)) (by decide)
        · exact Nat.le_trans (cat_le (k := 2121) (cat_le (k := 200) (show (Str.empty).length ≤ 0 from Nat.le_refl _) (show Str.length _ ≤ 200 by decide) (by decide)) h0 (by decide)) (by decide)
        · exact Nat.le_trans (cat_le (k := 2321) (cat_le (k := 2121) (cat_le (k := 200) (show (Str.empty).length ≤ 0 from Nat.le_refl _) (show Str.length _ ≤ 200 by decide) (by decide)) h0 (by decide)) (show Str.length _ ≤ 200 by decide) (by decide)) (by decide)
        · exact ⟨by show 1 ≤ 1000; decide, ha, _, rfl, _, rfl, a, C, rfl, F.U.T, hno0, .inl ⟨ha, fun dx h1 h2 => q _ dx h1 h2 (fun b n1 n2 => by rw [upd_ne n1, upd_ne n2]) upd_same (by rw [upd_ne h2, upd_same]; rfl)⟩⟩
theorem scSizeMismatchI : NdefX.NScope ["self", "first", "second", "__class__"] ["self", "first", "second"] ["__class__"] (defScope sSizeMismatchI) := NdefX.nscope_by (by decide +kernel)
theorem ok_SizeMismatchI {f C : Addr} {fd : FuncData} (F : ErT P K mg C "SizeMismatch.__init__" sSizeMismatchI f fd) (hno0 : PySem.W.findIn K (.ref C) "first" = some none) (hno1 : PySem.W.findIn K (.ref C) "second" = some none) : FnOk P w K mg base CX0 1 f fd ["self", "first", "second"] (spEr C ["first", "second"]) := by
  obtain ⟨oc, ccl, cl, od, cdd, cld, an, osl, ccs, csl, cda, cc, kV, doc, pm, ct, vs0, file, tf, rfl, lk, hcd, hcode, hvs, hfile, hcell⟩ := F.ex
  refine SupX.fn_sup F.U lk hcd hcode hvs hfile hcell scSizeMismatchI rfl rfl rfl (fun env => ⟨_, rfl⟩) (fun env => rfl) (fun env => rfl) (fun vs H Q E h => ?_) (fun A outer s H vs Q E hr h => ?_)
  · obtain ⟨a, xs, rfl, hl, _⟩ := h
    show xs.length + 1 = _
    rw [hl]
    rfl
  · obtain ⟨a, xs, rfl, hl, hp, ha, q⟩ := h
    match xs, hl with
    | [x0, x1], _ =>
      refine ⟨a, _, _, rfl, ha, pa_cons (pe_joined (.cons pe_str (.cons (pe_fmt (pv 1)) (.cons pe_str (.cons (pe_fmt (pv 2)) (.cons pe_str .nil)))))) pa_nil, (pss_cons (ps_ost (pv 0) (pv 1)) (pss_one (ps_ost (pv 0) (pv 2)))), ?_⟩
      rcases hp x0 (by simp) with ⟨i0, rfl, h0⟩ | ⟨y0, rfl, h0⟩
      ·
        rcases hp x1 (by simp) with ⟨i1, rfl, h1⟩ | ⟨y1, rfl, h1⟩
        ·
          refine ⟨_, rfl, ?_, ⟨_, rfl, .inr ⟨i0, rfl, h0, _, rfl, ?_, ⟨_, rfl, ?_, ⟨_, rfl, .inr ⟨i1, rfl, h1, _, rfl, ?_, ⟨_, rfl, ?_, ?_⟩⟩⟩⟩⟩⟩⟩
          · exact Nat.le_trans (cat_le (k := 200) (show (Str.empty).length ≤ 0 from Nat.le_refl _) (show Str.length _ ≤ 200 by decide) (by decide)) (by decide)
          · exact Nat.le_trans (cat_le (k := 2121) (cat_le (k := 200) (show (Str.empty).length ≤ 0 from Nat.le_refl _) (show Str.length _ ≤ 200 by decide) (by decide)) (int_le h0) (by decide)) (by decide)
          · exact Nat.le_trans (cat_le (k := 2321) (cat_le (k := 2121) (cat_le (k := 200) (show (Str.empty).length ≤ 0 from Nat.le_refl _) (show Str.length _ ≤ 200 by decide) (by decide)) (int_le h0) (by decide)) (show Str.length _ ≤ 200 by decide) (by decide)) (by decide)
          · exact Nat.le_trans (cat_le (k := 4242) (cat_le (k := 2321) (cat_le (k := 2121) (cat_le (k := 200) (show (Str.empty).length ≤ 0 from Nat.le_refl _) (show Str.length _ ≤ 200 by decide) (by decide)) (int_le h0) (by decide)) (show Str.length _ ≤ 200 by decide) (by decide)) (int_le h1) (by decide)) (by decide)
          · exact Nat.le_trans (cat_le (k := 4442) (cat_le (k := 4242) (cat_le (k := 2321) (cat_le (k := 2121) (cat_le (k := 200) (show (Str.empty).length ≤ 0 from Nat.le_refl _) (show Str.length _ ≤ 200 by decide) (by decide)) (int_le h0) (by decide)) (show Str.length _ ≤ 200 by decide) (by decide)) (int_le h1) (by decide)) (show Str.length _ ≤ 200 by decide) (by decide)) (by decide)
          · exact ⟨by show 1 ≤ 1000; decide, ha, _, rfl, _, rfl, a, C, rfl, F.U.T, hno0, .inl ⟨ha, fun dx h1 h2 => ⟨_, rfl, _, rfl, a, C, rfl, F.U.T, hno1, .inr ⟨dx, _, upd_same, (upd_ne h2).trans upd_same, by show 1 ≤ 900; decide, q _ dx h1 h2 (fun b n1 n2 => by rw [upd_ne n2, upd_ne n1, upd_ne n2]) (by rw [upd_ne (Ne.symm h2), upd_same]) (by rw [upd_same]; rfl)⟩⟩⟩⟩
        ·
          refine ⟨_, rfl, ?_, ⟨_, rfl, .inr ⟨i0, rfl, h0, _, rfl, ?_, ⟨_, rfl, ?_, ⟨_, rfl, .inl ⟨y1, rfl, str_le (Nat.le_trans h1 (by decide)), _, rfl, ?_, ⟨_, rfl, ?_, ?_⟩⟩⟩⟩⟩⟩⟩
          · exact Nat.le_trans (cat_le (k := 200) (show (Str.empty).length ≤ 0 from Nat.le_refl _) (show Str.length _ ≤ 200 by decide) (by decide)) (by decide)
          · exact Nat.le_trans (cat_le (k := 2121) (cat_le (k := 200) (show (Str.empty).length ≤ 0 from Nat.le_refl _) (show Str.length _ ≤ 200 by decide) (by decide)) (int_le h0) (by decide)) (by decide)
          · exact Nat.le_trans (cat_le (k := 2321) (cat_le (k := 2121) (cat_le (k := 200) (show (Str.empty).length ≤ 0 from Nat.le_refl _) (show Str.length _ ≤ 200 by decide) (by decide)) (int_le h0) (by decide)) (show Str.length _ ≤ 200 by decide) (by decide)) (by decide)
          · exact Nat.le_trans (cat_le (k := 4242) (cat_le (k := 2321) (cat_le (k := 2121) (cat_le (k := 200) (show (Str.empty).length ≤ 0 from Nat.le_refl _) (show Str.length _ ≤ 200 by decide) (by decide)) (int_le h0) (by decide)) (show Str.length _ ≤ 200 by decide) (by decide)) h1 (by decide)) (by decide)
          · exact Nat.le_trans (cat_le (k := 4442) (cat_le (k := 4242) (cat_le (k := 2321) (cat_le (k := 2121) (cat_le (k := 200) (show (Str.empty).length ≤ 0 from Nat.le_refl _) (show Str.length _ ≤ 200 by decide) (by decide)) (int_le h0) (by decide)) (show Str.length _ ≤ 200 by decide) (by decide)) h1 (by decide)) (show Str.length _ ≤ 200 by decide) (by decide)) (by decide)
          · exact ⟨by show 1 ≤ 1000; decide, ha, _, rfl, _, rfl, a, C, rfl, F.U.T, hno0, .inl ⟨ha, fun dx h1 h2 => ⟨_, rfl, _, rfl, a, C, rfl, F.U.T, hno1, .inr ⟨dx, _, upd_same, (upd_ne h2).trans upd_same, by show 1 ≤ 900; decide, q _ dx h1 h2 (fun b n1 n2 => by rw [upd_ne n2, upd_ne n1, upd_ne n2]) (by rw [upd_ne (Ne.symm h2), upd_same]) (by rw [upd_same]; rfl)⟩⟩⟩⟩
      ·
        rcases hp x1 (by simp) with ⟨i1, rfl, h1⟩ | ⟨y1, rfl, h1⟩
        ·
          refine ⟨_, rfl, ?_, ⟨_, rfl, .inl ⟨y0, rfl, str_le (Nat.le_trans h0 (by decide)), _, rfl, ?_, ⟨_, rfl, ?_, ⟨_, rfl, .inr ⟨i1, rfl, h1, _, rfl, ?_, ⟨_, rfl, ?_, ?_⟩⟩⟩⟩⟩⟩⟩
          · exact Nat.le_trans (cat_le (k := 200) (show (Str.empty).length ≤ 0 from Nat.le_refl _) (show Str.length _ ≤ 200 by decide) (by decide)) (by decide)
          · exact Nat.le_trans (cat_le (k := 2121) (cat_le (k := 200) (show (Str.empty).length ≤ 0 from Nat.le_refl _) (show Str.length _ ≤ 200 by decide) (by decide)) h0 (by decide)) (by decide)
          · exact Nat.le_trans (cat_le (k := 2321) (cat_le (k := 2121) (cat_le (k := 200) (show (Str.empty).length ≤ 0 from Nat.le_refl _) (show Str.length _ ≤ 200 by decide) (by decide)) h0 (by decide)) (show Str.length _ ≤ 200 by decide) (by decide)) (by decide)
          · exact Nat.le_trans (cat_le (k := 4242) (cat_le (k := 2321) (cat_le (k := 2121) (cat_le (k := 200) (show (Str.empty).length ≤ 0 from Nat.le_refl _) (show Str.length _ ≤ 200 by decide) (by decide)) h0 (by decide)) (show Str.length _ ≤ 200 by decide) (by decide)) (int_le h1) (by decide)) (by decide)
          · exact Nat.le_trans (cat_le (k := 4442) (cat_le (k := 4242) (cat_le (k := 2321) (cat_le (k := 2121) (cat_le (k := 200) (show (Str.empty).length ≤ 0 from Nat.le_refl _) (show Str.length _ ≤ 200 by decide) (by decide)) h0 (by decide)) (show Str.length _ ≤ 200 by decide) (by decide)) (int_le h1) (by decide)) (show Str.length _ ≤ 200 by decide) (by decide)) (by decide)
          · exact ⟨by show 1 ≤ 1000; decide, ha, _, rfl, _, rfl, a, C, rfl, F.U.T, hno0, .inl ⟨ha, fun dx h1 h2 => ⟨_, rfl, _, rfl, a, C, rfl, F.U.T, hno1, .inr ⟨dx, _, upd_same, (upd_ne h2).trans upd_same, by show 1 ≤ 900; decide, q _ dx h1 h2 (fun b n1 n2 => by rw [upd_ne n2, upd_ne n1, upd_ne n2]) (by rw [upd_ne (Ne.symm h2), upd_same]) (by rw [upd_same]; rfl)⟩⟩⟩⟩
        ·
          refine ⟨_, rfl, ?_, ⟨_, rfl, .inl ⟨y0, rfl, str_le (Nat.le_trans h0 (by decide)), _, rfl, ?_, ⟨_, rfl, ?_, ⟨_, rfl, .inl ⟨y1, rfl, str_le (Nat.le_trans h1 (by decide)), _, rfl, ?_, ⟨_, rfl, ?_, ?_⟩⟩⟩⟩⟩⟩⟩
          · exact Nat.le_trans (cat_le (k := 200) (show (Str.empty).length ≤ 0 from Nat.le_refl _) (show Str.length _ ≤ 200 by decide) (by decide)) (by decide)
          · exact Nat.le_trans (cat_le (k := 2121) (cat_le (k := 200) (show (Str.empty).length ≤ 0 from Nat.le_refl _) (show Str.length _ ≤ 200 by decide) (by decide)) h0 (by decide)) (by decide)
          · exact Nat.le_trans (cat_le (k := 2321) (cat_le (k := 2121) (cat_le (k := 200) (show (Str.empty).length ≤ 0 from Nat.le_refl _) (show Str.length _ ≤ 200 by decide) (by decide)) h0 (by decide)) (show Str.length _ ≤ 200 by decide) (by decide)) (by decide)
          · exact Nat.le_trans (cat_le (k := 4242) (cat_le (k := 2321) (cat_le (k := 2121) (cat_le (k := 200) (show (Str.empty).length ≤ 0 from Nat.le_refl _) (show Str.length _ ≤ 200 by decide) (by decide)) h0 (by decide)) (show Str.length _ ≤ 200 by decide) (by decide)) h1 (by decide)) (by decide)
          · exact Nat.le_trans (cat_le (k := 4442) (cat_le (k := 4242) (cat_le (k := 2321) (cat_le (k := 2121) (cat_le (k := 200) (show (Str.empty).length ≤ 0 from Nat.le_refl _) (show Str.length _ ≤ 200 by decide) (by decide)) h0 (by decide)) (show Str.length _ ≤ 200 by decide) (by decide)) h1 (by decide)) (show Str.length _ ≤ 200 by decide) (by decide)) (by decide)
          · exact ⟨by show 1 ≤ 1000; decide, ha, _, rfl, _, rfl, a, C, rfl, F.U.T, hno0, .inl ⟨ha, fun dx h1 h2 => ⟨_, rfl, _, rfl, a, C, rfl, F.U.T, hno1, .inr ⟨dx, _, upd_same, (upd_ne h2).trans upd_same, by show 1 ≤ 900; decide, q _ dx h1 h2 (fun b n1 n2 => by rw [upd_ne n2, upd_ne n1, upd_ne n2]) (by rw [upd_ne (Ne.symm h2), upd_same]) (by rw [upd_same]; rfl)⟩⟩⟩⟩
theorem scBadCountI : NdefX.NScope ["self", "count", "__class__"] ["self", "count"] ["__class__"] (defScope sBadCountI) := NdefX.nscope_by (by decide +kernel)
theorem ok_BadCountI {f C : Addr} {fd : FuncData} (F : ErT P K mg C "BadCount.__init__" sBadCountI f fd) (hno0 : PySem.W.findIn K (.ref C) "count" = some none) : FnOk P w K mg base CX0 1 f fd ["self", "count"] (spEr C ["count"]) := by
  obtain ⟨oc, ccl, cl, od, cdd, cld, an, osl, ccs, csl, cda, cc, kV, doc, pm, ct, vs0, file, tf, rfl, lk, hcd, hcode, hvs, hfile, hcell⟩ := F.ex
  refine SupX.fn_sup F.U lk hcd hcode hvs hfile hcell scBadCountI rfl rfl rfl (fun env => ⟨_, rfl⟩) (fun env => rfl) (fun env => rfl) (fun vs H Q E h => ?_) (fun A outer s H vs Q E hr h => ?_)
  · obtain ⟨a, xs, rfl, hl, _⟩ := h
    show xs.length + 1 = _
    rw [hl]
    rfl
  · obtain ⟨a, xs, rfl, hl, hp, ha, q⟩ := h
    match xs, hl with
    | [x0], _ =>
      refine ⟨a, _, _, rfl, ha, pa_cons (pe_joined (.cons pe_str (.cons (pe_fmt (pv 1)) (.cons pe_str .nil)))) pa_nil, (pss_one (ps_ost (pv 0) (pv 1))), ?_⟩
      rcases hp x0 (by simp) with ⟨i0, rfl, h0⟩ | ⟨y0, rfl, h0⟩
      ·
        refine ⟨_, rfl, ?_, ⟨_, rfl, .inr ⟨i0, rfl, h0, _, rfl, ?_, ⟨_, rfl, ?_, ?_⟩⟩⟩⟩
        · exact Nat.le_trans (cat_le (k := 200) (show (Str.empty).length ≤ 0 from Nat.le_refl _) (show Str.length _ ≤ 200 by decide) (by decide)) (by decide)
        · exact Nat.le_trans (cat_le (k := 2121) (cat_le (k := 200) (show (Str.empty).length ≤ 0 from Nat.le_refl _) (show Str.length _ ≤ 200 by decide) (by decide)) (int_le h0) (by decide)) (by decide)
        · exact Nat.le_trans (cat_le (k := 2321) (cat_le (k := 2121) (cat_le (k := 200) (show (Str.empty).length ≤ 0 from Nat.le_refl _) (show Str.length _ ≤ 200 by decide) (by decide)) (int_le h0) (by decide)) (show Str.length _ ≤ 200 by decide) (by decide)) (by decide)
        · exact ⟨by show 1 ≤ 1000; decide, ha, _, rfl, _, rfl, a, C, rfl, F.U.T, hno0, .inl ⟨ha, fun dx h1 h2 => q _ dx h1 h2 (fun b n1 n2 => by rw [upd_ne n1, upd_ne n2]) upd_same (by rw [upd_ne h2, upd_same]; rfl)⟩⟩
      ·
        refine ⟨_, rfl, ?_, ⟨_, rfl, .inl ⟨y0, rfl, str_le (Nat.le_trans h0 (by decide)), _, rfl, ?_, ⟨_, rfl, ?_, ?_⟩⟩⟩⟩
        · exact Nat.le_trans (cat_le (k := 200) (show (Str.empty).length ≤ 0 from Nat.le_refl _) (show Str.length _ ≤ 200 by decide) (by decide)) (by decide)
        · exact Nat.le_trans (cat_le (k := 2121) (cat_le (k := 200) (show (Str.empty).length ≤ 0 from Nat.le_refl _) (show Str.length _ ≤ 200 by decide) (by decide)) h0 (by decide)) (by decide)
        · exact Nat.le_trans (cat_le (k := 2321) (cat_le (k := 2121) (cat_le (k := 200) (show (Str.empty).length ≤ 0 from Nat.le_refl _) (show Str.length _ ≤ 200 by decide) (by decide)) h0 (by decide)) (show Str.length _ ≤ 200 by decide) (by decide)) (by decide)
        · exact ⟨by show 1 ≤ 1000; decide, ha, _, rfl, _, rfl, a, C, rfl, F.U.T, hno0, .inl ⟨ha, fun dx h1 h2 => q _ dx h1 h2 (fun b n1 n2 => by rw [upd_ne n1, upd_ne n2]) upd_same (by rw [upd_ne h2, upd_same]; rfl)⟩⟩
end

theorem hdT0 {K : PySem.W.Frag} (h : hdB0 K = true) : (PySem.W.nsIn K mainGlobals "abs" = some none) ∧ (PySem.W.nsIn K mainGlobals "all" = some none) ∧ (PySem.W.nsIn K mainGlobals "bool" = some none) ∧ (PySem.W.nsIn K mainGlobals "enumerate" = some none) ∧ (PySem.W.nsIn K mainGlobals "int" = some none) ∧ (PySem.W.nsIn K mainGlobals "isinstance" = some none) ∧ (PySem.W.nsIn K mainGlobals "len" = some none) ∧ (PySem.W.nsIn K mainGlobals "list" = some none) ∧ (PySem.W.nsIn K mainGlobals "range" = some none) ∧ (PySem.W.nsIn K mainGlobals "str" = some none) ∧ (PySem.W.nsIn K mainGlobals "tuple" = some none) ∧ (PySem.W.keepIn K (.ref (He.ga K "_law_box")) = true) ∧ (PySem.W.nsIn K mainGlobals "_law_box" = some (some (.ref (He.ga K "_law_box")))) ∧ (PySem.W.keepIn K (.ref (He.ga K "_law_take")) = true) ∧ (PySem.W.nsIn K mainGlobals "_law_take" = some (some (.ref (He.ga K "_law_take")))) ∧ (PySem.W.keepIn K (.ref (He.ga K "_law_words")) = true) ∧ (PySem.W.nsIn K mainGlobals "_law_words" = some (some (.ref (He.ga K "_law_words")))) ∧ (PySem.W.keepIn K (.ref (He.ga K "_law_rows")) = true) ∧ (PySem.W.nsIn K mainGlobals "_law_rows" = some (some (.ref (He.ga K "_law_rows")))) ∧ (PySem.W.keepIn K (.ref (He.ga K "is_size")) = true) := by
  unfold hdB0 at h
  obtain ⟨h0, h⟩ := He.ba h
  obtain ⟨h1, h⟩ := He.ba h
  obtain ⟨h2, h⟩ := He.ba h
  obtain ⟨h3, h⟩ := He.ba h
  obtain ⟨h4, h⟩ := He.ba h
  obtain ⟨h5, h⟩ := He.ba h
  obtain ⟨h6, h⟩ := He.ba h
  obtain ⟨h7, h⟩ := He.ba h
  obtain ⟨h8, h⟩ := He.ba h
  obtain ⟨h9, h⟩ := He.ba h
  obtain ⟨h10, h⟩ := He.ba h
  obtain ⟨h11, h⟩ := He.ba h
  obtain ⟨h12, h⟩ := He.ba h
  obtain ⟨h13, h⟩ := He.ba h
  obtain ⟨h14, h⟩ := He.ba h
  obtain ⟨h15, h⟩ := He.ba h
  obtain ⟨h16, h⟩ := He.ba h
  obtain ⟨h17, h⟩ := He.ba h
  obtain ⟨h18, h⟩ := He.ba h
  exact ⟨He.eqO_ok h0, He.eqO_ok h1, He.eqO_ok h2, He.eqO_ok h3, He.eqO_ok h4, He.eqO_ok h5, He.eqO_ok h6, He.eqO_ok h7, He.eqO_ok h8, He.eqO_ok h9, He.eqO_ok h10, h11, He.eqO_ok h12, h13, He.eqO_ok h14, h15, He.eqO_ok h16, h17, He.eqO_ok h18, h⟩
theorem hdT1 {K : PySem.W.Frag} (h : hdB1 K = true) : (PySem.W.nsIn K mainGlobals "is_size" = some (some (.ref (He.ga K "is_size")))) ∧ (PySem.W.keepIn K (.ref (He.ga K "check_size")) = true) ∧ (PySem.W.nsIn K mainGlobals "check_size" = some (some (.ref (He.ga K "check_size")))) ∧ (PySem.W.keepIn K (.ref (He.ga K "is_word")) = true) ∧ (PySem.W.nsIn K mainGlobals "is_word" = some (some (.ref (He.ga K "is_word")))) ∧ (PySem.W.keepIn K (.ref (He.ga K "all_words")) = true) ∧ (PySem.W.nsIn K mainGlobals "all_words" = some (some (.ref (He.ga K "all_words")))) ∧ (PySem.W.keepIn K (.ref (He.ga K "ascending")) = true) ∧ (PySem.W.nsIn K mainGlobals "ascending" = some (some (.ref (He.ga K "ascending")))) ∧ (PySem.W.keepIn K (.ref (He.ma K (He.ga K "Table") "__init__")) = true) ∧ (PySem.W.isFn K (.ref (He.ma K (He.ga K "Table") "__init__")) = true) ∧ (PySem.W.makesIn K (He.ga K "Table") = true) ∧ (PySem.W.findIn K (.ref (He.ga K "Table")) "__init__" = some (some (.ref (He.ma K (He.ga K "Table") "__init__")))) ∧ (PySem.W.keepIn K (.ref (He.ga K "Table")) = true) ∧ (PySem.W.keepIn K (.ref (He.ga K "_law_is_int")) = true) ∧ (PySem.W.nsIn K mainGlobals "_law_is_int" = some (some (.ref (He.ga K "_law_is_int")))) ∧ (PySem.W.keepIn K (.ref (He.ma K (He.ga K "Table") "rows")) = true) ∧ (PySem.W.isFn K (.ref (He.ma K (He.ga K "Table") "rows")) = true) ∧ (PySem.W.findIn K (.ref (He.ga K "Table")) "rows" = some (some (.ref (He.ma K (He.ga K "Table") "rows")))) ∧ (PySem.W.keepIn K (.ref (He.ga K "_law_is_words")) = true) := by
  unfold hdB1 at h
  obtain ⟨h0, h⟩ := He.ba h
  obtain ⟨h1, h⟩ := He.ba h
  obtain ⟨h2, h⟩ := He.ba h
  obtain ⟨h3, h⟩ := He.ba h
  obtain ⟨h4, h⟩ := He.ba h
  obtain ⟨h5, h⟩ := He.ba h
  obtain ⟨h6, h⟩ := He.ba h
  obtain ⟨h7, h⟩ := He.ba h
  obtain ⟨h8, h⟩ := He.ba h
  obtain ⟨h9, h⟩ := He.ba h
  obtain ⟨h10, h⟩ := He.ba h
  obtain ⟨h11, h⟩ := He.ba h
  obtain ⟨h12, h⟩ := He.ba h
  obtain ⟨h13, h⟩ := He.ba h
  obtain ⟨h14, h⟩ := He.ba h
  obtain ⟨h15, h⟩ := He.ba h
  obtain ⟨h16, h⟩ := He.ba h
  obtain ⟨h17, h⟩ := He.ba h
  obtain ⟨h18, h⟩ := He.ba h
  exact ⟨He.eqO_ok h0, h1, He.eqO_ok h2, h3, He.eqO_ok h4, h5, He.eqO_ok h6, h7, He.eqO_ok h8, h9, h10, h11, He.eqO_ok h12, h13, h14, He.eqO_ok h15, h16, h17, He.eqO_ok h18, h⟩
theorem hdT2 {K : PySem.W.Frag} (h : hdB2 K = true) : (PySem.W.nsIn K mainGlobals "_law_is_words" = some (some (.ref (He.ga K "_law_is_words")))) ∧ (PySem.W.keepIn K (.ref (He.ga K "_law_same")) = true) ∧ (PySem.W.nsIn K mainGlobals "_law_same" = some (some (.ref (He.ga K "_law_same")))) ∧ (PySem.W.keepIn K (.ref (Hd.recA K (Hd.cmA K (He.ga K "Table") "identity") "classmethod")) = true) ∧ (PySem.W.findCls K (.ref (He.ga K "Table")) (.type "type") "identity" = some (.get (.builtin "classmethod.__get__") (.ref (Hd.cmA K (He.ga K "Table") "identity")) .none (.ref (He.ga K "Table")))) ∧ (∃ rs, PySem.W.recIn K (Hd.cmA K (He.ga K "Table") "identity") "classmethod" = some (.ref (Hd.recA K (Hd.cmA K (He.ga K "Table") "identity") "classmethod") :: rs)) ∧ (PySem.W.fnIn K (Hd.recA K (Hd.cmA K (He.ga K "Table") "identity") "classmethod") = true) ∧ (PySem.W.keepIn K (.ref (He.ga K "check_same_size")) = true) ∧ (PySem.W.nsIn K mainGlobals "check_same_size" = some (some (.ref (He.ga K "check_same_size")))) ∧ (PySem.W.keepIn K (.ref (He.ma K (He.ga K "Table") "_out_of_some")) = true) ∧ (PySem.W.isFn K (.ref (He.ma K (He.ga K "Table") "_out_of_some")) = true) ∧ (PySem.W.findIn K (.ref (He.ga K "Table")) "_out_of_some" = some (some (.ref (He.ma K (He.ga K "Table") "_out_of_some")))) ∧ (PySem.W.keepIn K (.ref (He.ma K (He.ga K "Table") "__mul__")) = true) ∧ (PySem.W.isFn K (.ref (He.ma K (He.ga K "Table") "__mul__")) = true) ∧ (PySem.W.findIn K (.ref (He.ga K "Table")) "__mul__" = some (some (.ref (He.ma K (He.ga K "Table") "__mul__")))) ∧ (PySem.W.keepIn K (.ref (He.ma K (He.ga K "Table") "repeated")) = true) ∧ (PySem.W.isFn K (.ref (He.ma K (He.ga K "Table") "repeated")) = true) ∧ (PySem.W.findIn K (.ref (He.ga K "Table")) "repeated" = some (some (.ref (He.ma K (He.ga K "Table") "repeated")))) ∧ (PySem.W.keepIn K (.ref (He.ga K "_law_same_rows")) = true) ∧ (PySem.W.nsIn K mainGlobals "_law_same_rows" = some (some (.ref (He.ga K "_law_same_rows")))) := by
  unfold hdB2 at h
  obtain ⟨h0, h⟩ := He.ba h
  obtain ⟨h1, h⟩ := He.ba h
  obtain ⟨h2, h⟩ := He.ba h
  obtain ⟨h3, h⟩ := He.ba h
  obtain ⟨h4, h⟩ := He.ba h
  obtain ⟨h5, h⟩ := He.ba h
  obtain ⟨h6, h⟩ := He.ba h
  obtain ⟨h7, h⟩ := He.ba h
  obtain ⟨h8, h⟩ := He.ba h
  obtain ⟨h9, h⟩ := He.ba h
  obtain ⟨h10, h⟩ := He.ba h
  obtain ⟨h11, h⟩ := He.ba h
  obtain ⟨h12, h⟩ := He.ba h
  obtain ⟨h13, h⟩ := He.ba h
  obtain ⟨h14, h⟩ := He.ba h
  obtain ⟨h15, h⟩ := He.ba h
  obtain ⟨h16, h⟩ := He.ba h
  obtain ⟨h17, h⟩ := He.ba h
  obtain ⟨h18, h⟩ := He.ba h
  exact ⟨He.eqO_ok h0, h1, He.eqO_ok h2, h3, Hd.cm_ok h4, Hd.rec_ok h5, h6, h7, He.eqO_ok h8, h9, h10, He.eqO_ok h11, h12, h13, He.eqO_ok h14, h15, h16, He.eqO_ok h17, h18, He.eqO_ok h⟩
theorem hdT3 {K : PySem.W.Frag} (h : hdB3 K = true) : (PySem.W.keepIn K (.ref (He.ga K "_law_join")) = true) ∧ (PySem.W.nsIn K mainGlobals "_law_join" = some (some (.ref (He.ga K "_law_join")))) ∧ (PySem.W.keepIn K (.ref (He.ga K "_law_power")) = true) ∧ (PySem.W.nsIn K mainGlobals "_law_power" = some (some (.ref (He.ga K "_law_power")))) ∧ (PySem.W.keepIn K (.ref (He.ga K "_law_count_error")) = true) ∧ (PySem.W.nsIn K mainGlobals "_law_count_error" = some (some (.ref (He.ga K "_law_count_error")))) ∧ (PySem.W.keepIn K (.ref (He.ga K "law")) = true) ∧ (PySem.W.nsIn K mainGlobals "law" = some (some (.ref (He.ga K "law")))) ∧ (PySem.W.plainGet K (He.ga K "Table") Str.empty = true) ∧ (PySem.W.hasDictIn K (He.ga K "Table") = true) ∧ (PySem.W.plainOver K (He.ga K "Table") = true) ∧ (PySem.W.findIn K (.ref (He.ga K "Table")) "__setattr__" = some (some (.builtin "object.__setattr__"))) ∧ (PySem.W.findIn K (.ref (He.ga K "Table")) "size" = some none) ∧ (PySem.W.findIn K (.ref (He.ga K "Table")) "_pairs" = some none) ∧ (PySem.W.findIn K (.ref (He.ga K "Table")) "_rows" = some none) ∧ (PySem.W.nsIn K mainGlobals "Table" = some (some (.ref (He.ga K "Table")))) ∧ (PySem.W.selfFirst K (He.ga K "Table") = true) ∧ (PySem.W.readsIn K (He.ga K "Table") (.type "type") = true) ∧ (PySem.W.specialIn K (.ref (He.ga K "Table")) "__getattribute__" = some (some (.builtin "type.__getattribute__"))) ∧ (∃ t, PySem.W.findCls K (.ref (He.ga K "Table")) (.type "type") "MOST" = some (.val (.int 6 t))) := by
  unfold hdB3 at h
  obtain ⟨h0, h⟩ := He.ba h
  obtain ⟨h1, h⟩ := He.ba h
  obtain ⟨h2, h⟩ := He.ba h
  obtain ⟨h3, h⟩ := He.ba h
  obtain ⟨h4, h⟩ := He.ba h
  obtain ⟨h5, h⟩ := He.ba h
  obtain ⟨h6, h⟩ := He.ba h
  obtain ⟨h7, h⟩ := He.ba h
  obtain ⟨h8, h⟩ := He.ba h
  obtain ⟨h9, h⟩ := He.ba h
  obtain ⟨h10, h⟩ := He.ba h
  obtain ⟨h11, h⟩ := He.ba h
  obtain ⟨h12, h⟩ := He.ba h
  obtain ⟨h13, h⟩ := He.ba h
  obtain ⟨h14, h⟩ := He.ba h
  obtain ⟨h15, h⟩ := He.ba h
  obtain ⟨h16, h⟩ := He.ba h
  obtain ⟨h17, h⟩ := He.ba h
  obtain ⟨h18, h⟩ := He.ba h
  exact ⟨h0, He.eqO_ok h1, h2, He.eqO_ok h3, h4, He.eqO_ok h5, h6, He.eqO_ok h7, h8, h9, h10, He.eqO_ok h11, He.eqO_ok h12, He.eqO_ok h13, He.eqO_ok h14, He.eqO_ok h15, h16, h17, He.eqO_ok h18, Hd.cval_ok h⟩
theorem hdT4 {K : PySem.W.Frag} (h : hdB4 K = true) : (PySem.W.findIn K (.ref (He.ga K "Table")) "__class__" = some (some (.builtin "object.__class__"))) ∧ (PySem.W.specialIn K (.builtin "object.__class__") "__get__" = some (some (.builtin "getset_descriptor.__get__"))) ∧ (PySem.W.takesIn K (.builtin "object.__class__") = some true) ∧ (PySem.W.mroIn K (He.ga K "Table") (.type "object") = some true) ∧ (PySem.W.subIn K (.ref (He.ga K "Table")) (.ref (He.ga K "Table")) = some true) ∧ ((PySem.W.clsIn K (He.ga K "Table")).isSome = true) ∧ (PySem.W.typeIn K (.ref (He.ga K "Table")) = some (.type "type")) ∧ (PySem.W.subIn K (.type "NoneType") (.ref (He.ga K "Table")) = some false) ∧ (PySem.W.subIn K (.type "bool") (.ref (He.ga K "Table")) = some false) ∧ (PySem.W.subIn K (.type "int") (.ref (He.ga K "Table")) = some false) ∧ (PySem.W.subIn K (.type "str") (.ref (He.ga K "Table")) = some false) ∧ (PySem.W.subIn K (.type "list") (.ref (He.ga K "Table")) = some false) ∧ (PySem.W.subIn K (.type "tuple") (.ref (He.ga K "Table")) = some false) ∧ (PySem.W.nsIn K mainGlobals "MurmurError" = some (some (.ref (He.ga K "MurmurError")))) ∧ (PySem.W.nsIn K mainGlobals "BadSize" = some (some (.ref (He.ga K "BadSize")))) ∧ (PySem.W.nsIn K mainGlobals "BadTable" = some (some (.ref (He.ga K "BadTable")))) ∧ (PySem.W.nsIn K mainGlobals "UnknownWord" = some (some (.ref (He.ga K "UnknownWord")))) ∧ (PySem.W.nsIn K mainGlobals "SizeMismatch" = some (some (.ref (He.ga K "SizeMismatch")))) ∧ (PySem.W.nsIn K mainGlobals "BadCount" = some (some (.ref (He.ga K "BadCount")))) ∧ (PySem.W.nsIn K mainGlobals "BadPerson" = some (some (.ref (He.ga K "BadPerson")))) := by
  unfold hdB4 at h
  obtain ⟨h0, h⟩ := He.ba h
  obtain ⟨h1, h⟩ := He.ba h
  obtain ⟨h2, h⟩ := He.ba h
  obtain ⟨h3, h⟩ := He.ba h
  obtain ⟨h4, h⟩ := He.ba h
  obtain ⟨h5, h⟩ := He.ba h
  obtain ⟨h6, h⟩ := He.ba h
  obtain ⟨h7, h⟩ := He.ba h
  obtain ⟨h8, h⟩ := He.ba h
  obtain ⟨h9, h⟩ := He.ba h
  obtain ⟨h10, h⟩ := He.ba h
  obtain ⟨h11, h⟩ := He.ba h
  obtain ⟨h12, h⟩ := He.ba h
  obtain ⟨h13, h⟩ := He.ba h
  obtain ⟨h14, h⟩ := He.ba h
  obtain ⟨h15, h⟩ := He.ba h
  obtain ⟨h16, h⟩ := He.ba h
  obtain ⟨h17, h⟩ := He.ba h
  obtain ⟨h18, h⟩ := He.ba h
  exact ⟨He.eqO_ok h0, He.eqO_ok h1, of_decide_eq_true h2, of_decide_eq_true h3, of_decide_eq_true h4, h5, of_decide_eq_true h6, of_decide_eq_true h7, of_decide_eq_true h8, of_decide_eq_true h9, of_decide_eq_true h10, of_decide_eq_true h11, of_decide_eq_true h12, He.eqO_ok h13, He.eqO_ok h14, He.eqO_ok h15, He.eqO_ok h16, He.eqO_ok h17, He.eqO_ok h18, He.eqO_ok h⟩
theorem hdT5 {K : PySem.W.Frag} (h : hdB5 K = true) : (PySem.W.nsIn K mainGlobals "BadLetter" = some (some (.ref (He.ga K "BadLetter")))) ∧ (PySem.W.nsIn K mainGlobals "UnknownPerson" = some (some (.ref (He.ga K "UnknownPerson")))) ∧ (PySem.W.nsIn K mainGlobals "TooMany" = some (some (.ref (He.ga K "TooMany")))) ∧ (PySem.W.nsIn K mainGlobals "BadPattern" = some (some (.ref (He.ga K "BadPattern")))) ∧ (PySem.W.nsIn K mainGlobals "SameWord" = some (some (.ref (He.ga K "SameWord")))) ∧ (PySem.W.nsIn K mainGlobals "UnknownClue" = some (some (.ref (He.ga K "UnknownClue")))) ∧ (PySem.W.nsIn K mainGlobals "BadPlace" = some (some (.ref (He.ga K "BadPlace")))) ∧ (PySem.W.nsIn K mainGlobals "TooLong" = some (some (.ref (He.ga K "TooLong")))) ∧ (PySem.W.nsIn K mainGlobals "Melted" = some (some (.ref (He.ga K "Melted")))) ∧ (PySem.W.nsIn K mainGlobals "NothingToUndo" = some (some (.ref (He.ga K "NothingToUndo")))) ∧ (PySem.W.nsIn K mainGlobals "NothingToRedo" = some (some (.ref (He.ga K "NothingToRedo")))) ∧ (PySem.W.nsIn K mainGlobals "Refused" = some (some (.ref (He.ga K "Refused")))) ∧ (PySem.W.nsIn K mainGlobals "BadLine" = some (some (.ref (He.ga K "BadLine")))) ∧ (PySem.W.nsIn K mainGlobals "ValueError" = some none) ∧ (∃ nm q N bs bm sn sub ab col dd k0 k1 k2 k3 k5, K.lookup (He.ga K "BadSize") = some (excClassObj nm q (He.ga K "BadSize") N bs bm true sn sub ab col dd k0 k1 k2 k3 k5 "ValueError.__new__") ∧ PySem.HandSPX.refsVE bm = true) ∧ (PySem.W.findIn K (.ref (He.ga K "BadSize")) "__setattr__" = some (some (.builtin "object.__setattr__"))) ∧ (PySem.W.subIn K (.ref (He.ga K "BadSize")) (.type "BaseException") = some true) ∧ (PySem.W.typeIn K (.ref (He.ga K "BadSize")) = some (.type "type")) ∧ (PySem.W.keepIn K (.ref (He.ga K "BadSize")) = true) ∧ (PySem.W.mroIn K (He.ga K "BadSize") (.ref (He.ga K "BadSize")) = some true) := by
  unfold hdB5 at h
  obtain ⟨h0, h⟩ := He.ba h
  obtain ⟨h1, h⟩ := He.ba h
  obtain ⟨h2, h⟩ := He.ba h
  obtain ⟨h3, h⟩ := He.ba h
  obtain ⟨h4, h⟩ := He.ba h
  obtain ⟨h5, h⟩ := He.ba h
  obtain ⟨h6, h⟩ := He.ba h
  obtain ⟨h7, h⟩ := He.ba h
  obtain ⟨h8, h⟩ := He.ba h
  obtain ⟨h9, h⟩ := He.ba h
  obtain ⟨h10, h⟩ := He.ba h
  obtain ⟨h11, h⟩ := He.ba h
  obtain ⟨h12, h⟩ := He.ba h
  obtain ⟨h13, h⟩ := He.ba h
  obtain ⟨h14, h⟩ := He.ba h
  obtain ⟨h15, h⟩ := He.ba h
  obtain ⟨h16, h⟩ := He.ba h
  obtain ⟨h17, h⟩ := He.ba h
  obtain ⟨h18, h⟩ := He.ba h
  exact ⟨He.eqO_ok h0, He.eqO_ok h1, He.eqO_ok h2, He.eqO_ok h3, He.eqO_ok h4, He.eqO_ok h5, He.eqO_ok h6, He.eqO_ok h7, He.eqO_ok h8, He.eqO_ok h9, He.eqO_ok h10, He.eqO_ok h11, He.eqO_ok h12, He.eqO_ok h13, Hd.ec_ok h14, He.eqO_ok h15, of_decide_eq_true h16, of_decide_eq_true h17, h18, of_decide_eq_true h⟩
theorem hdT6 {K : PySem.W.Frag} (h : hdB6 K = true) : (PySem.W.subIn K (.ref (He.ga K "BadSize")) (.type "ValueError") = some true) ∧ (PySem.W.ks_superIn K (He.ga K "BadSize") (He.ga K "BadSize") "__init__" = some (some (.builtin "ValueError.__init__"))) ∧ (PySem.W.nsIn K mainGlobals "super" = some none) ∧ (PySem.W.nsIn K cStatics "thirdparty.any" = some none) ∧ (∃ ek ew ev er ef eg, K.lookup (Hd.codeOf K (He.ma K (He.ga K "BadSize") "__init__")) = some ⟨ek, ew, .fields ev, er⟩ ∧ ev[2]? = some (.str ef eg) ∧ (((PySem.Challenge.rw_murmurline_k07_whole_repeated).prog.main.file : Str) == ef) = true) ∧ (∃ el eu eq, K.lookup (Hd.cellOf K (He.ma K (He.ga K "BadSize") "__init__")) = some ⟨el, eu, .cell (some (.ref (He.ga K "BadSize"))), eq⟩) ∧ (PySem.W.findIn K (.ref (He.ga K "BadSize")) "__init__" = some (some (.ref (He.ma K (He.ga K "BadSize") "__init__")))) ∧ (PySem.W.typeIn K (.ref (He.ma K (He.ga K "BadSize") "__init__")) = some (.type "function")) ∧ (PySem.W.findIn K (.ref (He.ga K "BadSize")) "size" = some none) ∧ (PySem.W.findIn K (.ref (He.ga K "BadSize")) "__getattribute__" = some (some (.builtin "BaseException.__getattribute__"))) ∧ (PySem.W.findIn K (.ref (He.ga K "BadSize")) "__getattr__" = some none) ∧ (PySem.W.hasDictIn K (He.ga K "BadSize") = true) ∧ (PySem.W.findIn K (.ref (He.ga K "BadSize")) "__class__" = some (some (.builtin "object.__class__"))) ∧ (PySem.W.mroIn K (He.ga K "BadSize") (.type "object") = some true) ∧ (PySem.W.subIn K (.ref (He.ga K "BadSize")) (.ref (He.ga K "BadSize")) = some true) ∧ ((PySem.W.clsIn K (He.ga K "BadSize")).isSome = true) ∧ ((PySem.W.clsIn K (He.ga K "BadTable")).isSome = true) ∧ (PySem.W.typeIn K (.ref (He.ga K "BadTable")) = some (.type "type")) ∧ (PySem.W.subIn K (.ref (He.ga K "BadSize")) (.ref (He.ga K "BadTable")) = some false) ∧ ((PySem.W.clsIn K (He.ga K "UnknownWord")).isSome = true) := by
  unfold hdB6 at h
  obtain ⟨h0, h⟩ := He.ba h
  obtain ⟨h1, h⟩ := He.ba h
  obtain ⟨h2, h⟩ := He.ba h
  obtain ⟨h3, h⟩ := He.ba h
  obtain ⟨h4, h⟩ := He.ba h
  obtain ⟨h5, h⟩ := He.ba h
  obtain ⟨h6, h⟩ := He.ba h
  obtain ⟨h7, h⟩ := He.ba h
  obtain ⟨h8, h⟩ := He.ba h
  obtain ⟨h9, h⟩ := He.ba h
  obtain ⟨h10, h⟩ := He.ba h
  obtain ⟨h11, h⟩ := He.ba h
  obtain ⟨h12, h⟩ := He.ba h
  obtain ⟨h13, h⟩ := He.ba h
  obtain ⟨h14, h⟩ := He.ba h
  obtain ⟨h15, h⟩ := He.ba h
  obtain ⟨h16, h⟩ := He.ba h
  obtain ⟨h17, h⟩ := He.ba h
  obtain ⟨h18, h⟩ := He.ba h
  exact ⟨of_decide_eq_true h0, He.eqO_ok h1, He.eqO_ok h2, He.eqO_ok h3, Hd.file_ok h4, Hd.cell_ok h5, He.eqO_ok h6, of_decide_eq_true h7, He.eqO_ok h8, He.eqO_ok h9, He.eqO_ok h10, h11, He.eqO_ok h12, of_decide_eq_true h13, of_decide_eq_true h14, h15, h16, of_decide_eq_true h17, of_decide_eq_true h18, h⟩
theorem hdT7 {K : PySem.W.Frag} (h : hdB7 K = true) : (PySem.W.typeIn K (.ref (He.ga K "UnknownWord")) = some (.type "type")) ∧ (PySem.W.subIn K (.ref (He.ga K "BadSize")) (.ref (He.ga K "UnknownWord")) = some false) ∧ ((PySem.W.clsIn K (He.ga K "SizeMismatch")).isSome = true) ∧ (PySem.W.typeIn K (.ref (He.ga K "SizeMismatch")) = some (.type "type")) ∧ (PySem.W.subIn K (.ref (He.ga K "BadSize")) (.ref (He.ga K "SizeMismatch")) = some false) ∧ ((PySem.W.clsIn K (He.ga K "BadCount")).isSome = true) ∧ (PySem.W.typeIn K (.ref (He.ga K "BadCount")) = some (.type "type")) ∧ (PySem.W.subIn K (.ref (He.ga K "BadSize")) (.ref (He.ga K "BadCount")) = some false) ∧ ((PySem.W.clsIn K (He.ga K "BadPerson")).isSome = true) ∧ (PySem.W.typeIn K (.ref (He.ga K "BadPerson")) = some (.type "type")) ∧ (PySem.W.subIn K (.ref (He.ga K "BadSize")) (.ref (He.ga K "BadPerson")) = some false) ∧ ((PySem.W.clsIn K (He.ga K "BadLetter")).isSome = true) ∧ (PySem.W.typeIn K (.ref (He.ga K "BadLetter")) = some (.type "type")) ∧ (PySem.W.subIn K (.ref (He.ga K "BadSize")) (.ref (He.ga K "BadLetter")) = some false) ∧ ((PySem.W.clsIn K (He.ga K "UnknownPerson")).isSome = true) ∧ (PySem.W.typeIn K (.ref (He.ga K "UnknownPerson")) = some (.type "type")) ∧ (PySem.W.subIn K (.ref (He.ga K "BadSize")) (.ref (He.ga K "UnknownPerson")) = some false) ∧ ((PySem.W.clsIn K (He.ga K "TooMany")).isSome = true) ∧ (PySem.W.typeIn K (.ref (He.ga K "TooMany")) = some (.type "type")) ∧ (PySem.W.subIn K (.ref (He.ga K "BadSize")) (.ref (He.ga K "TooMany")) = some false) := by
  unfold hdB7 at h
  obtain ⟨h0, h⟩ := He.ba h
  obtain ⟨h1, h⟩ := He.ba h
  obtain ⟨h2, h⟩ := He.ba h
  obtain ⟨h3, h⟩ := He.ba h
  obtain ⟨h4, h⟩ := He.ba h
  obtain ⟨h5, h⟩ := He.ba h
  obtain ⟨h6, h⟩ := He.ba h
  obtain ⟨h7, h⟩ := He.ba h
  obtain ⟨h8, h⟩ := He.ba h
  obtain ⟨h9, h⟩ := He.ba h
  obtain ⟨h10, h⟩ := He.ba h
  obtain ⟨h11, h⟩ := He.ba h
  obtain ⟨h12, h⟩ := He.ba h
  obtain ⟨h13, h⟩ := He.ba h
  obtain ⟨h14, h⟩ := He.ba h
  obtain ⟨h15, h⟩ := He.ba h
  obtain ⟨h16, h⟩ := He.ba h
  obtain ⟨h17, h⟩ := He.ba h
  obtain ⟨h18, h⟩ := He.ba h
  exact ⟨of_decide_eq_true h0, of_decide_eq_true h1, h2, of_decide_eq_true h3, of_decide_eq_true h4, h5, of_decide_eq_true h6, of_decide_eq_true h7, h8, of_decide_eq_true h9, of_decide_eq_true h10, h11, of_decide_eq_true h12, of_decide_eq_true h13, h14, of_decide_eq_true h15, of_decide_eq_true h16, h17, of_decide_eq_true h18, of_decide_eq_true h⟩
theorem hdT8 {K : PySem.W.Frag} (h : hdB8 K = true) : ((PySem.W.clsIn K (He.ga K "BadPattern")).isSome = true) ∧ (PySem.W.typeIn K (.ref (He.ga K "BadPattern")) = some (.type "type")) ∧ (PySem.W.subIn K (.ref (He.ga K "BadSize")) (.ref (He.ga K "BadPattern")) = some false) ∧ ((PySem.W.clsIn K (He.ga K "SameWord")).isSome = true) ∧ (PySem.W.typeIn K (.ref (He.ga K "SameWord")) = some (.type "type")) ∧ (PySem.W.subIn K (.ref (He.ga K "BadSize")) (.ref (He.ga K "SameWord")) = some false) ∧ ((PySem.W.clsIn K (He.ga K "UnknownClue")).isSome = true) ∧ (PySem.W.typeIn K (.ref (He.ga K "UnknownClue")) = some (.type "type")) ∧ (PySem.W.subIn K (.ref (He.ga K "BadSize")) (.ref (He.ga K "UnknownClue")) = some false) ∧ ((PySem.W.clsIn K (He.ga K "BadPlace")).isSome = true) ∧ (PySem.W.typeIn K (.ref (He.ga K "BadPlace")) = some (.type "type")) ∧ (PySem.W.subIn K (.ref (He.ga K "BadSize")) (.ref (He.ga K "BadPlace")) = some false) ∧ ((PySem.W.clsIn K (He.ga K "TooLong")).isSome = true) ∧ (PySem.W.typeIn K (.ref (He.ga K "TooLong")) = some (.type "type")) ∧ (PySem.W.subIn K (.ref (He.ga K "BadSize")) (.ref (He.ga K "TooLong")) = some false) ∧ ((PySem.W.clsIn K (He.ga K "Melted")).isSome = true) ∧ (PySem.W.typeIn K (.ref (He.ga K "Melted")) = some (.type "type")) ∧ (PySem.W.subIn K (.ref (He.ga K "BadSize")) (.ref (He.ga K "Melted")) = some false) ∧ ((PySem.W.clsIn K (He.ga K "NothingToUndo")).isSome = true) ∧ (PySem.W.typeIn K (.ref (He.ga K "NothingToUndo")) = some (.type "type")) := by
  unfold hdB8 at h
  obtain ⟨h0, h⟩ := He.ba h
  obtain ⟨h1, h⟩ := He.ba h
  obtain ⟨h2, h⟩ := He.ba h
  obtain ⟨h3, h⟩ := He.ba h
  obtain ⟨h4, h⟩ := He.ba h
  obtain ⟨h5, h⟩ := He.ba h
  obtain ⟨h6, h⟩ := He.ba h
  obtain ⟨h7, h⟩ := He.ba h
  obtain ⟨h8, h⟩ := He.ba h
  obtain ⟨h9, h⟩ := He.ba h
  obtain ⟨h10, h⟩ := He.ba h
  obtain ⟨h11, h⟩ := He.ba h
  obtain ⟨h12, h⟩ := He.ba h
  obtain ⟨h13, h⟩ := He.ba h
  obtain ⟨h14, h⟩ := He.ba h
  obtain ⟨h15, h⟩ := He.ba h
  obtain ⟨h16, h⟩ := He.ba h
  obtain ⟨h17, h⟩ := He.ba h
  obtain ⟨h18, h⟩ := He.ba h
  exact ⟨h0, of_decide_eq_true h1, of_decide_eq_true h2, h3, of_decide_eq_true h4, of_decide_eq_true h5, h6, of_decide_eq_true h7, of_decide_eq_true h8, h9, of_decide_eq_true h10, of_decide_eq_true h11, h12, of_decide_eq_true h13, of_decide_eq_true h14, h15, of_decide_eq_true h16, of_decide_eq_true h17, h18, of_decide_eq_true h⟩
theorem hdT9 {K : PySem.W.Frag} (h : hdB9 K = true) : (PySem.W.subIn K (.ref (He.ga K "BadSize")) (.ref (He.ga K "NothingToUndo")) = some false) ∧ ((PySem.W.clsIn K (He.ga K "NothingToRedo")).isSome = true) ∧ (PySem.W.typeIn K (.ref (He.ga K "NothingToRedo")) = some (.type "type")) ∧ (PySem.W.subIn K (.ref (He.ga K "BadSize")) (.ref (He.ga K "NothingToRedo")) = some false) ∧ ((PySem.W.clsIn K (He.ga K "Refused")).isSome = true) ∧ (PySem.W.typeIn K (.ref (He.ga K "Refused")) = some (.type "type")) ∧ (PySem.W.subIn K (.ref (He.ga K "BadSize")) (.ref (He.ga K "Refused")) = some false) ∧ ((PySem.W.clsIn K (He.ga K "BadLine")).isSome = true) ∧ (PySem.W.typeIn K (.ref (He.ga K "BadLine")) = some (.type "type")) ∧ (PySem.W.subIn K (.ref (He.ga K "BadSize")) (.ref (He.ga K "BadLine")) = some false) ∧ ((PySem.W.clsIn K (He.ga K "MurmurError")).isSome = true) ∧ (PySem.W.typeIn K (.ref (He.ga K "MurmurError")) = some (.type "type")) ∧ (PySem.W.subIn K (.ref (He.ga K "BadSize")) (.ref (He.ga K "MurmurError")) = some true) ∧ (∃ nm q N bs bm sn sub ab col dd k0 k1 k2 k3 k5, K.lookup (He.ga K "BadTable") = some (excClassObj nm q (He.ga K "BadTable") N bs bm true sn sub ab col dd k0 k1 k2 k3 k5 "ValueError.__new__") ∧ PySem.HandSPX.refsVE bm = true) ∧ (PySem.W.findIn K (.ref (He.ga K "BadTable")) "__setattr__" = some (some (.builtin "object.__setattr__"))) ∧ (PySem.W.subIn K (.ref (He.ga K "BadTable")) (.type "BaseException") = some true) ∧ (PySem.W.keepIn K (.ref (He.ga K "BadTable")) = true) ∧ (PySem.W.mroIn K (He.ga K "BadTable") (.ref (He.ga K "BadTable")) = some true) ∧ (PySem.W.subIn K (.ref (He.ga K "BadTable")) (.type "ValueError") = some true) ∧ (PySem.W.ks_superIn K (He.ga K "BadTable") (He.ga K "BadTable") "__init__" = some (some (.builtin "ValueError.__init__"))) := by
  unfold hdB9 at h
  obtain ⟨h0, h⟩ := He.ba h
  obtain ⟨h1, h⟩ := He.ba h
  obtain ⟨h2, h⟩ := He.ba h
  obtain ⟨h3, h⟩ := He.ba h
  obtain ⟨h4, h⟩ := He.ba h
  obtain ⟨h5, h⟩ := He.ba h
  obtain ⟨h6, h⟩ := He.ba h
  obtain ⟨h7, h⟩ := He.ba h
  obtain ⟨h8, h⟩ := He.ba h
  obtain ⟨h9, h⟩ := He.ba h
  obtain ⟨h10, h⟩ := He.ba h
  obtain ⟨h11, h⟩ := He.ba h
  obtain ⟨h12, h⟩ := He.ba h
  obtain ⟨h13, h⟩ := He.ba h
  obtain ⟨h14, h⟩ := He.ba h
  obtain ⟨h15, h⟩ := He.ba h
  obtain ⟨h16, h⟩ := He.ba h
  obtain ⟨h17, h⟩ := He.ba h
  obtain ⟨h18, h⟩ := He.ba h
  exact ⟨of_decide_eq_true h0, h1, of_decide_eq_true h2, of_decide_eq_true h3, h4, of_decide_eq_true h5, of_decide_eq_true h6, h7, of_decide_eq_true h8, of_decide_eq_true h9, h10, of_decide_eq_true h11, of_decide_eq_true h12, Hd.ec_ok h13, He.eqO_ok h14, of_decide_eq_true h15, h16, of_decide_eq_true h17, of_decide_eq_true h18, He.eqO_ok h⟩
theorem hdT10 {K : PySem.W.Frag} (h : hdB10 K = true) : (∃ ek ew ev er ef eg, K.lookup (Hd.codeOf K (He.ma K (He.ga K "BadTable") "__init__")) = some ⟨ek, ew, .fields ev, er⟩ ∧ ev[2]? = some (.str ef eg) ∧ (((PySem.Challenge.rw_murmurline_k07_whole_repeated).prog.main.file : Str) == ef) = true) ∧ (∃ el eu eq, K.lookup (Hd.cellOf K (He.ma K (He.ga K "BadTable") "__init__")) = some ⟨el, eu, .cell (some (.ref (He.ga K "BadTable"))), eq⟩) ∧ (PySem.W.findIn K (.ref (He.ga K "BadTable")) "__init__" = some (some (.ref (He.ma K (He.ga K "BadTable") "__init__")))) ∧ (PySem.W.typeIn K (.ref (He.ma K (He.ga K "BadTable") "__init__")) = some (.type "function")) ∧ (PySem.W.findIn K (.ref (He.ga K "BadTable")) "index" = some none) ∧ (PySem.W.findIn K (.ref (He.ga K "BadTable")) "__getattribute__" = some (some (.builtin "BaseException.__getattribute__"))) ∧ (PySem.W.findIn K (.ref (He.ga K "BadTable")) "__getattr__" = some none) ∧ (PySem.W.hasDictIn K (He.ga K "BadTable") = true) ∧ (PySem.W.findIn K (.ref (He.ga K "BadTable")) "__class__" = some (some (.builtin "object.__class__"))) ∧ (PySem.W.mroIn K (He.ga K "BadTable") (.type "object") = some true) ∧ (PySem.W.subIn K (.ref (He.ga K "BadTable")) (.ref (He.ga K "BadTable")) = some true) ∧ (PySem.W.subIn K (.ref (He.ga K "BadTable")) (.ref (He.ga K "BadSize")) = some false) ∧ (PySem.W.subIn K (.ref (He.ga K "BadTable")) (.ref (He.ga K "UnknownWord")) = some false) ∧ (PySem.W.subIn K (.ref (He.ga K "BadTable")) (.ref (He.ga K "SizeMismatch")) = some false) ∧ (PySem.W.subIn K (.ref (He.ga K "BadTable")) (.ref (He.ga K "BadCount")) = some false) ∧ (PySem.W.subIn K (.ref (He.ga K "BadTable")) (.ref (He.ga K "BadPerson")) = some false) ∧ (PySem.W.subIn K (.ref (He.ga K "BadTable")) (.ref (He.ga K "BadLetter")) = some false) ∧ (PySem.W.subIn K (.ref (He.ga K "BadTable")) (.ref (He.ga K "UnknownPerson")) = some false) ∧ (PySem.W.subIn K (.ref (He.ga K "BadTable")) (.ref (He.ga K "TooMany")) = some false) ∧ (PySem.W.subIn K (.ref (He.ga K "BadTable")) (.ref (He.ga K "BadPattern")) = some false) := by
  unfold hdB10 at h
  obtain ⟨h0, h⟩ := He.ba h
  obtain ⟨h1, h⟩ := He.ba h
  obtain ⟨h2, h⟩ := He.ba h
  obtain ⟨h3, h⟩ := He.ba h
  obtain ⟨h4, h⟩ := He.ba h
  obtain ⟨h5, h⟩ := He.ba h
  obtain ⟨h6, h⟩ := He.ba h
  obtain ⟨h7, h⟩ := He.ba h
  obtain ⟨h8, h⟩ := He.ba h
  obtain ⟨h9, h⟩ := He.ba h
  obtain ⟨h10, h⟩ := He.ba h
  obtain ⟨h11, h⟩ := He.ba h
  obtain ⟨h12, h⟩ := He.ba h
  obtain ⟨h13, h⟩ := He.ba h
  obtain ⟨h14, h⟩ := He.ba h
  obtain ⟨h15, h⟩ := He.ba h
  obtain ⟨h16, h⟩ := He.ba h
  obtain ⟨h17, h⟩ := He.ba h
  obtain ⟨h18, h⟩ := He.ba h
  exact ⟨Hd.file_ok h0, Hd.cell_ok h1, He.eqO_ok h2, of_decide_eq_true h3, He.eqO_ok h4, He.eqO_ok h5, He.eqO_ok h6, h7, He.eqO_ok h8, of_decide_eq_true h9, of_decide_eq_true h10, of_decide_eq_true h11, of_decide_eq_true h12, of_decide_eq_true h13, of_decide_eq_true h14, of_decide_eq_true h15, of_decide_eq_true h16, of_decide_eq_true h17, of_decide_eq_true h18, of_decide_eq_true h⟩
theorem hdT11 {K : PySem.W.Frag} (h : hdB11 K = true) : (PySem.W.subIn K (.ref (He.ga K "BadTable")) (.ref (He.ga K "SameWord")) = some false) ∧ (PySem.W.subIn K (.ref (He.ga K "BadTable")) (.ref (He.ga K "UnknownClue")) = some false) ∧ (PySem.W.subIn K (.ref (He.ga K "BadTable")) (.ref (He.ga K "BadPlace")) = some false) ∧ (PySem.W.subIn K (.ref (He.ga K "BadTable")) (.ref (He.ga K "TooLong")) = some false) ∧ (PySem.W.subIn K (.ref (He.ga K "BadTable")) (.ref (He.ga K "Melted")) = some false) ∧ (PySem.W.subIn K (.ref (He.ga K "BadTable")) (.ref (He.ga K "NothingToUndo")) = some false) ∧ (PySem.W.subIn K (.ref (He.ga K "BadTable")) (.ref (He.ga K "NothingToRedo")) = some false) ∧ (PySem.W.subIn K (.ref (He.ga K "BadTable")) (.ref (He.ga K "Refused")) = some false) ∧ (PySem.W.subIn K (.ref (He.ga K "BadTable")) (.ref (He.ga K "BadLine")) = some false) ∧ (PySem.W.subIn K (.ref (He.ga K "BadTable")) (.ref (He.ga K "MurmurError")) = some true) ∧ (∃ nm q N bs bm sn sub ab col dd k0 k1 k2 k3 k5, K.lookup (He.ga K "SizeMismatch") = some (excClassObj nm q (He.ga K "SizeMismatch") N bs bm true sn sub ab col dd k0 k1 k2 k3 k5 "ValueError.__new__") ∧ PySem.HandSPX.refsVE bm = true) ∧ (PySem.W.findIn K (.ref (He.ga K "SizeMismatch")) "__setattr__" = some (some (.builtin "object.__setattr__"))) ∧ (PySem.W.subIn K (.ref (He.ga K "SizeMismatch")) (.type "BaseException") = some true) ∧ (PySem.W.keepIn K (.ref (He.ga K "SizeMismatch")) = true) ∧ (PySem.W.mroIn K (He.ga K "SizeMismatch") (.ref (He.ga K "SizeMismatch")) = some true) ∧ (PySem.W.subIn K (.ref (He.ga K "SizeMismatch")) (.type "ValueError") = some true) ∧ (PySem.W.ks_superIn K (He.ga K "SizeMismatch") (He.ga K "SizeMismatch") "__init__" = some (some (.builtin "ValueError.__init__"))) ∧ (∃ ek ew ev er ef eg, K.lookup (Hd.codeOf K (He.ma K (He.ga K "SizeMismatch") "__init__")) = some ⟨ek, ew, .fields ev, er⟩ ∧ ev[2]? = some (.str ef eg) ∧ (((PySem.Challenge.rw_murmurline_k07_whole_repeated).prog.main.file : Str) == ef) = true) ∧ (∃ el eu eq, K.lookup (Hd.cellOf K (He.ma K (He.ga K "SizeMismatch") "__init__")) = some ⟨el, eu, .cell (some (.ref (He.ga K "SizeMismatch"))), eq⟩) ∧ (PySem.W.findIn K (.ref (He.ga K "SizeMismatch")) "__init__" = some (some (.ref (He.ma K (He.ga K "SizeMismatch") "__init__")))) := by
  unfold hdB11 at h
  obtain ⟨h0, h⟩ := He.ba h
  obtain ⟨h1, h⟩ := He.ba h
  obtain ⟨h2, h⟩ := He.ba h
  obtain ⟨h3, h⟩ := He.ba h
  obtain ⟨h4, h⟩ := He.ba h
  obtain ⟨h5, h⟩ := He.ba h
  obtain ⟨h6, h⟩ := He.ba h
  obtain ⟨h7, h⟩ := He.ba h
  obtain ⟨h8, h⟩ := He.ba h
  obtain ⟨h9, h⟩ := He.ba h
  obtain ⟨h10, h⟩ := He.ba h
  obtain ⟨h11, h⟩ := He.ba h
  obtain ⟨h12, h⟩ := He.ba h
  obtain ⟨h13, h⟩ := He.ba h
  obtain ⟨h14, h⟩ := He.ba h
  obtain ⟨h15, h⟩ := He.ba h
  obtain ⟨h16, h⟩ := He.ba h
  obtain ⟨h17, h⟩ := He.ba h
  obtain ⟨h18, h⟩ := He.ba h
  exact ⟨of_decide_eq_true h0, of_decide_eq_true h1, of_decide_eq_true h2, of_decide_eq_true h3, of_decide_eq_true h4, of_decide_eq_true h5, of_decide_eq_true h6, of_decide_eq_true h7, of_decide_eq_true h8, of_decide_eq_true h9, Hd.ec_ok h10, He.eqO_ok h11, of_decide_eq_true h12, h13, of_decide_eq_true h14, of_decide_eq_true h15, He.eqO_ok h16, Hd.file_ok h17, Hd.cell_ok h18, He.eqO_ok h⟩
theorem hdT12 {K : PySem.W.Frag} (h : hdB12 K = true) : (PySem.W.typeIn K (.ref (He.ma K (He.ga K "SizeMismatch") "__init__")) = some (.type "function")) ∧ (PySem.W.findIn K (.ref (He.ga K "SizeMismatch")) "first" = some none) ∧ (PySem.W.findIn K (.ref (He.ga K "SizeMismatch")) "second" = some none) ∧ (PySem.W.findIn K (.ref (He.ga K "SizeMismatch")) "__getattribute__" = some (some (.builtin "BaseException.__getattribute__"))) ∧ (PySem.W.findIn K (.ref (He.ga K "SizeMismatch")) "__getattr__" = some none) ∧ (PySem.W.hasDictIn K (He.ga K "SizeMismatch") = true) ∧ (PySem.W.findIn K (.ref (He.ga K "SizeMismatch")) "__class__" = some (some (.builtin "object.__class__"))) ∧ (PySem.W.mroIn K (He.ga K "SizeMismatch") (.type "object") = some true) ∧ (PySem.W.subIn K (.ref (He.ga K "SizeMismatch")) (.ref (He.ga K "SizeMismatch")) = some true) ∧ (PySem.W.subIn K (.ref (He.ga K "SizeMismatch")) (.ref (He.ga K "BadSize")) = some false) ∧ (PySem.W.subIn K (.ref (He.ga K "SizeMismatch")) (.ref (He.ga K "BadTable")) = some false) ∧ (PySem.W.subIn K (.ref (He.ga K "SizeMismatch")) (.ref (He.ga K "UnknownWord")) = some false) ∧ (PySem.W.subIn K (.ref (He.ga K "SizeMismatch")) (.ref (He.ga K "BadCount")) = some false) ∧ (PySem.W.subIn K (.ref (He.ga K "SizeMismatch")) (.ref (He.ga K "BadPerson")) = some false) ∧ (PySem.W.subIn K (.ref (He.ga K "SizeMismatch")) (.ref (He.ga K "BadLetter")) = some false) ∧ (PySem.W.subIn K (.ref (He.ga K "SizeMismatch")) (.ref (He.ga K "UnknownPerson")) = some false) ∧ (PySem.W.subIn K (.ref (He.ga K "SizeMismatch")) (.ref (He.ga K "TooMany")) = some false) ∧ (PySem.W.subIn K (.ref (He.ga K "SizeMismatch")) (.ref (He.ga K "BadPattern")) = some false) ∧ (PySem.W.subIn K (.ref (He.ga K "SizeMismatch")) (.ref (He.ga K "SameWord")) = some false) ∧ (PySem.W.subIn K (.ref (He.ga K "SizeMismatch")) (.ref (He.ga K "UnknownClue")) = some false) := by
  unfold hdB12 at h
  obtain ⟨h0, h⟩ := He.ba h
  obtain ⟨h1, h⟩ := He.ba h
  obtain ⟨h2, h⟩ := He.ba h
  obtain ⟨h3, h⟩ := He.ba h
  obtain ⟨h4, h⟩ := He.ba h
  obtain ⟨h5, h⟩ := He.ba h
  obtain ⟨h6, h⟩ := He.ba h
  obtain ⟨h7, h⟩ := He.ba h
  obtain ⟨h8, h⟩ := He.ba h
  obtain ⟨h9, h⟩ := He.ba h
  obtain ⟨h10, h⟩ := He.ba h
  obtain ⟨h11, h⟩ := He.ba h
  obtain ⟨h12, h⟩ := He.ba h
  obtain ⟨h13, h⟩ := He.ba h
  obtain ⟨h14, h⟩ := He.ba h
  obtain ⟨h15, h⟩ := He.ba h
  obtain ⟨h16, h⟩ := He.ba h
  obtain ⟨h17, h⟩ := He.ba h
  obtain ⟨h18, h⟩ := He.ba h
  exact ⟨of_decide_eq_true h0, He.eqO_ok h1, He.eqO_ok h2, He.eqO_ok h3, He.eqO_ok h4, h5, He.eqO_ok h6, of_decide_eq_true h7, of_decide_eq_true h8, of_decide_eq_true h9, of_decide_eq_true h10, of_decide_eq_true h11, of_decide_eq_true h12, of_decide_eq_true h13, of_decide_eq_true h14, of_decide_eq_true h15, of_decide_eq_true h16, of_decide_eq_true h17, of_decide_eq_true h18, of_decide_eq_true h⟩
theorem hdT13 {K : PySem.W.Frag} (h : hdB13 K = true) : (PySem.W.subIn K (.ref (He.ga K "SizeMismatch")) (.ref (He.ga K "BadPlace")) = some false) ∧ (PySem.W.subIn K (.ref (He.ga K "SizeMismatch")) (.ref (He.ga K "TooLong")) = some false) ∧ (PySem.W.subIn K (.ref (He.ga K "SizeMismatch")) (.ref (He.ga K "Melted")) = some false) ∧ (PySem.W.subIn K (.ref (He.ga K "SizeMismatch")) (.ref (He.ga K "NothingToUndo")) = some false) ∧ (PySem.W.subIn K (.ref (He.ga K "SizeMismatch")) (.ref (He.ga K "NothingToRedo")) = some false) ∧ (PySem.W.subIn K (.ref (He.ga K "SizeMismatch")) (.ref (He.ga K "Refused")) = some false) ∧ (PySem.W.subIn K (.ref (He.ga K "SizeMismatch")) (.ref (He.ga K "BadLine")) = some false) ∧ (PySem.W.subIn K (.ref (He.ga K "SizeMismatch")) (.ref (He.ga K "MurmurError")) = some true) ∧ (∃ nm q N bs bm sn sub ab col dd k0 k1 k2 k3 k5, K.lookup (He.ga K "BadCount") = some (excClassObj nm q (He.ga K "BadCount") N bs bm true sn sub ab col dd k0 k1 k2 k3 k5 "ValueError.__new__") ∧ PySem.HandSPX.refsVE bm = true) ∧ (PySem.W.findIn K (.ref (He.ga K "BadCount")) "__setattr__" = some (some (.builtin "object.__setattr__"))) ∧ (PySem.W.subIn K (.ref (He.ga K "BadCount")) (.type "BaseException") = some true) ∧ (PySem.W.keepIn K (.ref (He.ga K "BadCount")) = true) ∧ (PySem.W.mroIn K (He.ga K "BadCount") (.ref (He.ga K "BadCount")) = some true) ∧ (PySem.W.subIn K (.ref (He.ga K "BadCount")) (.type "ValueError") = some true) ∧ (PySem.W.ks_superIn K (He.ga K "BadCount") (He.ga K "BadCount") "__init__" = some (some (.builtin "ValueError.__init__"))) ∧ (∃ ek ew ev er ef eg, K.lookup (Hd.codeOf K (He.ma K (He.ga K "BadCount") "__init__")) = some ⟨ek, ew, .fields ev, er⟩ ∧ ev[2]? = some (.str ef eg) ∧ (((PySem.Challenge.rw_murmurline_k07_whole_repeated).prog.main.file : Str) == ef) = true) ∧ (∃ el eu eq, K.lookup (Hd.cellOf K (He.ma K (He.ga K "BadCount") "__init__")) = some ⟨el, eu, .cell (some (.ref (He.ga K "BadCount"))), eq⟩) ∧ (PySem.W.findIn K (.ref (He.ga K "BadCount")) "__init__" = some (some (.ref (He.ma K (He.ga K "BadCount") "__init__")))) ∧ (PySem.W.typeIn K (.ref (He.ma K (He.ga K "BadCount") "__init__")) = some (.type "function")) ∧ (PySem.W.findIn K (.ref (He.ga K "BadCount")) "count" = some none) := by
  unfold hdB13 at h
  obtain ⟨h0, h⟩ := He.ba h
  obtain ⟨h1, h⟩ := He.ba h
  obtain ⟨h2, h⟩ := He.ba h
  obtain ⟨h3, h⟩ := He.ba h
  obtain ⟨h4, h⟩ := He.ba h
  obtain ⟨h5, h⟩ := He.ba h
  obtain ⟨h6, h⟩ := He.ba h
  obtain ⟨h7, h⟩ := He.ba h
  obtain ⟨h8, h⟩ := He.ba h
  obtain ⟨h9, h⟩ := He.ba h
  obtain ⟨h10, h⟩ := He.ba h
  obtain ⟨h11, h⟩ := He.ba h
  obtain ⟨h12, h⟩ := He.ba h
  obtain ⟨h13, h⟩ := He.ba h
  obtain ⟨h14, h⟩ := He.ba h
  obtain ⟨h15, h⟩ := He.ba h
  obtain ⟨h16, h⟩ := He.ba h
  obtain ⟨h17, h⟩ := He.ba h
  obtain ⟨h18, h⟩ := He.ba h
  exact ⟨of_decide_eq_true h0, of_decide_eq_true h1, of_decide_eq_true h2, of_decide_eq_true h3, of_decide_eq_true h4, of_decide_eq_true h5, of_decide_eq_true h6, of_decide_eq_true h7, Hd.ec_ok h8, He.eqO_ok h9, of_decide_eq_true h10, h11, of_decide_eq_true h12, of_decide_eq_true h13, He.eqO_ok h14, Hd.file_ok h15, Hd.cell_ok h16, He.eqO_ok h17, of_decide_eq_true h18, He.eqO_ok h⟩
theorem hdT14 {K : PySem.W.Frag} (h : hdB14 K = true) : (PySem.W.findIn K (.ref (He.ga K "BadCount")) "__getattribute__" = some (some (.builtin "BaseException.__getattribute__"))) ∧ (PySem.W.findIn K (.ref (He.ga K "BadCount")) "__getattr__" = some none) ∧ (PySem.W.hasDictIn K (He.ga K "BadCount") = true) ∧ (PySem.W.findIn K (.ref (He.ga K "BadCount")) "__class__" = some (some (.builtin "object.__class__"))) ∧ (PySem.W.mroIn K (He.ga K "BadCount") (.type "object") = some true) ∧ (PySem.W.subIn K (.ref (He.ga K "BadCount")) (.ref (He.ga K "BadCount")) = some true) ∧ (PySem.W.subIn K (.ref (He.ga K "BadCount")) (.ref (He.ga K "BadSize")) = some false) ∧ (PySem.W.subIn K (.ref (He.ga K "BadCount")) (.ref (He.ga K "BadTable")) = some false) ∧ (PySem.W.subIn K (.ref (He.ga K "BadCount")) (.ref (He.ga K "UnknownWord")) = some false) ∧ (PySem.W.subIn K (.ref (He.ga K "BadCount")) (.ref (He.ga K "SizeMismatch")) = some false) ∧ (PySem.W.subIn K (.ref (He.ga K "BadCount")) (.ref (He.ga K "BadPerson")) = some false) ∧ (PySem.W.subIn K (.ref (He.ga K "BadCount")) (.ref (He.ga K "BadLetter")) = some false) ∧ (PySem.W.subIn K (.ref (He.ga K "BadCount")) (.ref (He.ga K "UnknownPerson")) = some false) ∧ (PySem.W.subIn K (.ref (He.ga K "BadCount")) (.ref (He.ga K "TooMany")) = some false) ∧ (PySem.W.subIn K (.ref (He.ga K "BadCount")) (.ref (He.ga K "BadPattern")) = some false) ∧ (PySem.W.subIn K (.ref (He.ga K "BadCount")) (.ref (He.ga K "SameWord")) = some false) ∧ (PySem.W.subIn K (.ref (He.ga K "BadCount")) (.ref (He.ga K "UnknownClue")) = some false) ∧ (PySem.W.subIn K (.ref (He.ga K "BadCount")) (.ref (He.ga K "BadPlace")) = some false) ∧ (PySem.W.subIn K (.ref (He.ga K "BadCount")) (.ref (He.ga K "TooLong")) = some false) ∧ (PySem.W.subIn K (.ref (He.ga K "BadCount")) (.ref (He.ga K "Melted")) = some false) := by
  unfold hdB14 at h
  obtain ⟨h0, h⟩ := He.ba h
  obtain ⟨h1, h⟩ := He.ba h
  obtain ⟨h2, h⟩ := He.ba h
  obtain ⟨h3, h⟩ := He.ba h
  obtain ⟨h4, h⟩ := He.ba h
  obtain ⟨h5, h⟩ := He.ba h
  obtain ⟨h6, h⟩ := He.ba h
  obtain ⟨h7, h⟩ := He.ba h
  obtain ⟨h8, h⟩ := He.ba h
  obtain ⟨h9, h⟩ := He.ba h
  obtain ⟨h10, h⟩ := He.ba h
  obtain ⟨h11, h⟩ := He.ba h
  obtain ⟨h12, h⟩ := He.ba h
  obtain ⟨h13, h⟩ := He.ba h
  obtain ⟨h14, h⟩ := He.ba h
  obtain ⟨h15, h⟩ := He.ba h
  obtain ⟨h16, h⟩ := He.ba h
  obtain ⟨h17, h⟩ := He.ba h
  obtain ⟨h18, h⟩ := He.ba h
  exact ⟨He.eqO_ok h0, He.eqO_ok h1, h2, He.eqO_ok h3, of_decide_eq_true h4, of_decide_eq_true h5, of_decide_eq_true h6, of_decide_eq_true h7, of_decide_eq_true h8, of_decide_eq_true h9, of_decide_eq_true h10, of_decide_eq_true h11, of_decide_eq_true h12, of_decide_eq_true h13, of_decide_eq_true h14, of_decide_eq_true h15, of_decide_eq_true h16, of_decide_eq_true h17, of_decide_eq_true h18, of_decide_eq_true h⟩
theorem hdT15 {K : PySem.W.Frag} (h : hdB15 K = true) : (PySem.W.subIn K (.ref (He.ga K "BadCount")) (.ref (He.ga K "NothingToUndo")) = some false) ∧ (PySem.W.subIn K (.ref (He.ga K "BadCount")) (.ref (He.ga K "NothingToRedo")) = some false) ∧ (PySem.W.subIn K (.ref (He.ga K "BadCount")) (.ref (He.ga K "Refused")) = some false) ∧ (PySem.W.subIn K (.ref (He.ga K "BadCount")) (.ref (He.ga K "BadLine")) = some false) ∧ (PySem.W.subIn K (.ref (He.ga K "BadCount")) (.ref (He.ga K "MurmurError")) = some true) ∧ (PySem.W.keepIn K (.ref (He.ga K "_law_single")) = true) ∧ (PySem.W.nsIn K mainGlobals "_law_single" = some (some (.ref (He.ga K "_law_single")))) := by
  unfold hdB15 at h
  obtain ⟨h0, h⟩ := He.ba h
  obtain ⟨h1, h⟩ := He.ba h
  obtain ⟨h2, h⟩ := He.ba h
  obtain ⟨h3, h⟩ := He.ba h
  obtain ⟨h4, h⟩ := He.ba h
  obtain ⟨h5, h⟩ := He.ba h
  exact ⟨of_decide_eq_true h0, of_decide_eq_true h1, of_decide_eq_true h2, of_decide_eq_true h3, of_decide_eq_true h4, h5, He.eqO_ok h⟩
def hdC (K : PySem.W.Frag) : Nat → Addr := fun n => match n with
  | 0 => (He.ga K "Table")
  | 1 => (He.ga K "Table")
  | 2 => (He.ga K "Table")
  | 3 => (He.ga K "Table")
  | 4 => (He.ga K "Table")
  | 5 => (He.ga K "Table")
  | 6 => (He.ga K "Table")
  | 7 => (He.ga K "Table")
  | 8 => (He.ga K "Table")
  | 99 => He.ga K "MurmurError"
  | 100 => He.ga K "BadSize"
  | 101 => He.ga K "BadTable"
  | 102 => He.ga K "UnknownWord"
  | 103 => He.ga K "SizeMismatch"
  | 104 => He.ga K "BadCount"
  | 105 => He.ga K "BadPerson"
  | 106 => He.ga K "BadLetter"
  | 107 => He.ga K "UnknownPerson"
  | 108 => He.ga K "TooMany"
  | 109 => He.ga K "BadPattern"
  | 110 => He.ga K "SameWord"
  | 111 => He.ga K "UnknownClue"
  | 112 => He.ga K "BadPlace"
  | 113 => He.ga K "TooLong"
  | 114 => He.ga K "Melted"
  | 115 => He.ga K "NothingToUndo"
  | 116 => He.ga K "NothingToRedo"
  | 117 => He.ga K "Refused"
  | 118 => He.ga K "BadLine"
  | _ => 0
theorem hd_al {K : PySem.W.Frag} {h : Heap} {mg : Str → Option Value} (X : K.In h) (G : h.Ns mainGlobals mg) (c : Hd.SaysB hdB hdF K) : Al (PySem.Challenge.rw_murmurline_k07_whole_repeated).prog K mg (hdC K) := by
  have cB := c.bool
  unfold hdB at cB
  obtain ⟨cB0, cB⟩ := He.ba cB
  obtain ⟨q0, q1, q2, q3, q4, q5, q6, q7, q8, q9, q10, q11, q12, q13, q14, q15, q16, q17, q18, q19⟩ := hdT0 cB0
  obtain ⟨cB1, cB⟩ := He.ba cB
  obtain ⟨q20, q21, q22, q23, q24, q25, q26, q27, q28, q29, q30, q31, q32, q33, q34, q35, q36, q37, q38, q39⟩ := hdT1 cB1
  obtain ⟨cB2, cB⟩ := He.ba cB
  obtain ⟨q40, q41, q42, q43, q44, q45, q46, q47, q48, q49, q50, q51, q52, q53, q54, q55, q56, q57, q58, q59⟩ := hdT2 cB2
  obtain ⟨cB3, cB⟩ := He.ba cB
  obtain ⟨q60, q61, q62, q63, q64, q65, q66, q67, q68, q69, q70, q71, q72, q73, q74, q75, q76, q77, q78, q79⟩ := hdT3 cB3
  obtain ⟨cB4, cB⟩ := He.ba cB
  obtain ⟨q80, q81, q82, q83, q84, q85, q86, q87, q88, q89, q90, q91, q92, q93, q94, q95, q96, q97, q98, q99⟩ := hdT4 cB4
  obtain ⟨cB5, cB⟩ := He.ba cB
  obtain ⟨q100, q101, q102, q103, q104, q105, q106, q107, q108, q109, q110, q111, q112, q113, q114, q115, q116, q117, q118, q119⟩ := hdT5 cB5
  obtain ⟨cB6, cB⟩ := He.ba cB
  obtain ⟨q120, q121, q122, q123, q124, q125, q126, q127, q128, q129, q130, q131, q132, q133, q134, q135, q136, q137, q138, q139⟩ := hdT6 cB6
  obtain ⟨cB7, cB⟩ := He.ba cB
  obtain ⟨q140, q141, q142, q143, q144, q145, q146, q147, q148, q149, q150, q151, q152, q153, q154, q155, q156, q157, q158, q159⟩ := hdT7 cB7
  obtain ⟨cB8, cB⟩ := He.ba cB
  obtain ⟨q160, q161, q162, q163, q164, q165, q166, q167, q168, q169, q170, q171, q172, q173, q174, q175, q176, q177, q178, q179⟩ := hdT8 cB8
  obtain ⟨cB9, cB⟩ := He.ba cB
  obtain ⟨q180, q181, q182, q183, q184, q185, q186, q187, q188, q189, q190, q191, q192, q193, q194, q195, q196, q197, q198, q199⟩ := hdT9 cB9
  obtain ⟨cB10, cB⟩ := He.ba cB
  obtain ⟨q200, q201, q202, q203, q204, q205, q206, q207, q208, q209, q210, q211, q212, q213, q214, q215, q216, q217, q218, q219⟩ := hdT10 cB10
  obtain ⟨cB11, cB⟩ := He.ba cB
  obtain ⟨q220, q221, q222, q223, q224, q225, q226, q227, q228, q229, q230, q231, q232, q233, q234, q235, q236, q237, q238, q239⟩ := hdT11 cB11
  obtain ⟨cB12, cB⟩ := He.ba cB
  obtain ⟨q240, q241, q242, q243, q244, q245, q246, q247, q248, q249, q250, q251, q252, q253, q254, q255, q256, q257, q258, q259⟩ := hdT12 cB12
  obtain ⟨cB13, cB⟩ := He.ba cB
  obtain ⟨q260, q261, q262, q263, q264, q265, q266, q267, q268, q269, q270, q271, q272, q273, q274, q275, q276, q277, q278, q279⟩ := hdT13 cB13
  obtain ⟨cB14, cB⟩ := He.ba cB
  obtain ⟨q280, q281, q282, q283, q284, q285, q286, q287, q288, q289, q290, q291, q292, q293, q294, q295, q296, q297, q298, q299⟩ := hdT14 cB14
  obtain ⟨q300, q301, q302, q303, q304, q305, q306⟩ := hdT15 cB
  obtain ⟨fd0, F0⟩ := Hd.fun_of (st := s__law_box) (c.def_ 0 (d := hdF0) rfl).1 (c.def_ 0 (d := hdF0) rfl).2 q11
  obtain ⟨fd1, F1⟩ := Hd.fun_of (st := s__law_take) (c.def_ 1 (d := hdF1) rfl).1 (c.def_ 1 (d := hdF1) rfl).2 q13
  obtain ⟨fd2, F2⟩ := Hd.fun_of (st := s__law_words) (c.def_ 2 (d := hdF2) rfl).1 (c.def_ 2 (d := hdF2) rfl).2 q15
  obtain ⟨fd3, F3⟩ := Hd.fun_of (st := s__law_rows) (c.def_ 3 (d := hdF3) rfl).1 (c.def_ 3 (d := hdF3) rfl).2 q17
  obtain ⟨fd4, F4⟩ := Hd.fun_of (st := s_is_size) (c.def_ 4 (d := hdF4) rfl).1 (c.def_ 4 (d := hdF4) rfl).2 q19
  obtain ⟨fd5, F5⟩ := Hd.fun_of (st := s_check_size) (c.def_ 5 (d := hdF5) rfl).1 (c.def_ 5 (d := hdF5) rfl).2 q21
  obtain ⟨fd6, F6⟩ := Hd.fun_of (st := s_is_word) (c.def_ 6 (d := hdF6) rfl).1 (c.def_ 6 (d := hdF6) rfl).2 q23
  obtain ⟨fd7, F7⟩ := Hd.fun_of (st := s_all_words) (c.def_ 7 (d := hdF7) rfl).1 (c.def_ 7 (d := hdF7) rfl).2 q25
  obtain ⟨fd8, F8⟩ := Hd.fun_of (st := s_ascending) (c.def_ 8 (d := hdF8) rfl).1 (c.def_ 8 (d := hdF8) rfl).2 q27
  obtain ⟨fd9, F9⟩ := Hd.fun_of (st := s_Table___init__) (c.def_ 9 (d := hdF9) rfl).1 (c.def_ 9 (d := hdF9) rfl).2 q29
  obtain ⟨fd10, F10⟩ := Hd.fun_of (st := s__law_is_int) (c.def_ 10 (d := hdF10) rfl).1 (c.def_ 10 (d := hdF10) rfl).2 q34
  obtain ⟨fd11, F11⟩ := Hd.fun_of (st := s_Table_rows) (c.def_ 11 (d := hdF11) rfl).1 (c.def_ 11 (d := hdF11) rfl).2 q36
  obtain ⟨fd12, F12⟩ := Hd.fun_of (st := s__law_is_words) (c.def_ 12 (d := hdF12) rfl).1 (c.def_ 12 (d := hdF12) rfl).2 q39
  obtain ⟨fd13, F13⟩ := Hd.fun_of (st := s__law_same) (c.def_ 13 (d := hdF13) rfl).1 (c.def_ 13 (d := hdF13) rfl).2 q41
  obtain ⟨fd14, F14⟩ := Hd.fun_of (st := s_Table_identity) (c.def_ 14 (d := hdF14) rfl).1 (c.def_ 14 (d := hdF14) rfl).2 q43
  obtain ⟨fd15, F15⟩ := Hd.fun_of (st := s_check_same_size) (c.def_ 15 (d := hdF15) rfl).1 (c.def_ 15 (d := hdF15) rfl).2 q47
  obtain ⟨fd16, F16⟩ := Hd.fun_of (st := s_Table__out_of_some) (c.def_ 16 (d := hdF16) rfl).1 (c.def_ 16 (d := hdF16) rfl).2 q49
  obtain ⟨fd17, F17⟩ := Hd.fun_of (st := s_Table___mul__) (c.def_ 17 (d := hdF17) rfl).1 (c.def_ 17 (d := hdF17) rfl).2 q52
  obtain ⟨fd18, F18⟩ := Hd.fun_of (st := s_Table_repeated) (c.def_ 18 (d := hdF18) rfl).1 (c.def_ 18 (d := hdF18) rfl).2 q55
  obtain ⟨fd19, F19⟩ := Hd.fun_of (st := s__law_same_rows) (c.def_ 19 (d := hdF19) rfl).1 (c.def_ 19 (d := hdF19) rfl).2 q58
  obtain ⟨fd20, F20⟩ := Hd.fun_of (st := s__law_join) (c.def_ 20 (d := hdF20) rfl).1 (c.def_ 20 (d := hdF20) rfl).2 q60
  obtain ⟨fd21, F21⟩ := Hd.fun_of (st := s__law_power) (c.def_ 21 (d := hdF21) rfl).1 (c.def_ 21 (d := hdF21) rfl).2 q62
  obtain ⟨fd22, F22⟩ := Hd.fun_of (st := s__law_count_error) (c.def_ 22 (d := hdF22) rfl).1 (c.def_ 22 (d := hdF22) rfl).2 q64
  obtain ⟨fd23, F23⟩ := Hd.fun_of (st := s_law_k07) (c.def_ 23 (d := hdF23) rfl).1 (c.def_ 23 (d := hdF23) rfl).2 q66
  obtain ⟨nm24, qq24, N24, bs24, bm24, sn24, su24, ab24, cc24, dd24, ka24, kb24, kc24, kd24, ke24, lC24, rV24⟩ := q114
  have O24 := Hd.oex_mk lC24 rV24 q115 q116 q117 q118
  obtain ⟨eo24, ey24, es24, eV24, ed24, ep24, ez24, et24, lk24, cd24⟩ := Hd.fnx_sup (c.def_ 24 (d := hdF24) rfl).1 (c.def_ 24 (d := hdF24) rfl).2
  obtain ⟨ek24, ew24, ev24, er24, ef24, eg24, lc24, vs24, fl24⟩ := q124
  obtain ⟨el24, eu24, eq24, ce24⟩ := q125
  have T24 := Hd.ert_mk (P := (PySem.Challenge.rw_murmurline_k07_whole_repeated).prog) (mg := mg) (st := sBadSizeI) O24 q119 (PySem.W.mg_none_of X G q122) rfl q123 q121 q120 lk24 cd24 lc24 vs24 fl24 ce24 q126 q127
  obtain ⟨nm25, qq25, N25, bs25, bm25, sn25, su25, ab25, cc25, dd25, ka25, kb25, kc25, kd25, ke25, lC25, rV25⟩ := q193
  have O25 := Hd.oex_mk lC25 rV25 q194 q195 q137 q196
  obtain ⟨eo25, ey25, es25, eV25, ed25, ep25, ez25, et25, lk25, cd25⟩ := Hd.fnx_sup (c.def_ 25 (d := hdF25) rfl).1 (c.def_ 25 (d := hdF25) rfl).2
  obtain ⟨ek25, ew25, ev25, er25, ef25, eg25, lc25, vs25, fl25⟩ := q200
  obtain ⟨el25, eu25, eq25, ce25⟩ := q201
  have T25 := Hd.ert_mk (P := (PySem.Challenge.rw_murmurline_k07_whole_repeated).prog) (mg := mg) (st := sBadTableI) O25 q197 (PySem.W.mg_none_of X G q122) rfl q123 q199 q198 lk25 cd25 lc25 vs25 fl25 ce25 q202 q203
  obtain ⟨nm26, qq26, N26, bs26, bm26, sn26, su26, ab26, cc26, dd26, ka26, kb26, kc26, kd26, ke26, lC26, rV26⟩ := q230
  have O26 := Hd.oex_mk lC26 rV26 q231 q232 q143 q233
  obtain ⟨eo26, ey26, es26, eV26, ed26, ep26, ez26, et26, lk26, cd26⟩ := Hd.fnx_sup (c.def_ 26 (d := hdF26) rfl).1 (c.def_ 26 (d := hdF26) rfl).2
  obtain ⟨ek26, ew26, ev26, er26, ef26, eg26, lc26, vs26, fl26⟩ := q237
  obtain ⟨el26, eu26, eq26, ce26⟩ := q238
  have T26 := Hd.ert_mk (P := (PySem.Challenge.rw_murmurline_k07_whole_repeated).prog) (mg := mg) (st := sSizeMismatchI) O26 q234 (PySem.W.mg_none_of X G q122) rfl q123 q236 q235 lk26 cd26 lc26 vs26 fl26 ce26 q239 q240
  obtain ⟨nm27, qq27, N27, bs27, bm27, sn27, su27, ab27, cc27, dd27, ka27, kb27, kc27, kd27, ke27, lC27, rV27⟩ := q268
  have O27 := Hd.oex_mk lC27 rV27 q269 q270 q146 q271
  obtain ⟨eo27, ey27, es27, eV27, ed27, ep27, ez27, et27, lk27, cd27⟩ := Hd.fnx_sup (c.def_ 27 (d := hdF27) rfl).1 (c.def_ 27 (d := hdF27) rfl).2
  obtain ⟨ek27, ew27, ev27, er27, ef27, eg27, lc27, vs27, fl27⟩ := q275
  obtain ⟨el27, eu27, eq27, ce27⟩ := q276
  have T27 := Hd.ert_mk (P := (PySem.Challenge.rw_murmurline_k07_whole_repeated).prog) (mg := mg) (st := sBadCountI) O27 q272 (PySem.W.mg_none_of X G q122) rfl q123 q274 q273 lk27 cd27 lc27 vs27 fl27 ce27 q277 q278
  obtain ⟨fd28, F28⟩ := Hd.fun_of (st := s__law_single) (c.def_ 28 (d := hdF28) rfl).1 (c.def_ 28 (d := hdF28) rfl).2 q305
  exact {
    B := ⟨(PySem.W.mg_none_of X G q0), (PySem.W.mg_none_of X G q1), (PySem.W.mg_none_of X G q2), (PySem.W.mg_none_of X G q3), (PySem.W.mg_none_of X G q4), (PySem.W.mg_none_of X G q5), (PySem.W.mg_none_of X G q6), (PySem.W.mg_none_of X G q7), (PySem.W.mg_none_of X G q8), (PySem.W.mg_none_of X G q9), (PySem.W.mg_none_of X G q10)⟩,
    f__law_box := ⟨(He.ga K "_law_box"), fd0, F0, (PySem.W.mg_of X G q12), F0.binds (ps := ["_law_script"]) fun _ _ _ _ _ _ us hl => match us, hl with | [_], _ => rfl⟩,
    f__law_take := ⟨(He.ga K "_law_take"), fd1, F1, (PySem.W.mg_of X G q14), F1.binds (ps := ["_law_box_here", "_law_many"]) fun _ _ _ _ _ _ us hl => match us, hl with | [_, _], _ => rfl⟩,
    f__law_words := ⟨(He.ga K "_law_words"), fd2, F2, (PySem.W.mg_of X G q16), F2.binds (ps := ["_law_box_here", "_law_n", "_law_least"]) fun _ _ _ _ _ _ us hl => match us, hl with | [_, _, _], _ => rfl⟩,
    f__law_rows := ⟨(He.ga K "_law_rows"), fd3, F3, (PySem.W.mg_of X G q18), F3.binds (ps := ["_law_box_here", "_law_n", "_law_least"]) fun _ _ _ _ _ _ us hl => match us, hl with | [_, _, _], _ => rfl⟩,
    f_is_size := ⟨(He.ga K "is_size"), fd4, F4, (PySem.W.mg_of X G q20), F4.binds (ps := ["size"]) fun _ _ _ _ _ _ us hl => match us, hl with | [_], _ => rfl⟩,
    f_check_size := ⟨(He.ga K "check_size"), fd5, F5, (PySem.W.mg_of X G q22), F5.binds (ps := ["size"]) fun _ _ _ _ _ _ us hl => match us, hl with | [_], _ => rfl⟩,
    f_is_word := ⟨(He.ga K "is_word"), fd6, F6, (PySem.W.mg_of X G q24), F6.binds (ps := ["word", "size"]) fun _ _ _ _ _ _ us hl => match us, hl with | [_, _], _ => rfl⟩,
    f_all_words := ⟨(He.ga K "all_words"), fd7, F7, (PySem.W.mg_of X G q26), F7.binds (ps := ["words", "size"]) fun _ _ _ _ _ _ us hl => match us, hl with | [_, _], _ => rfl⟩,
    f_ascending := ⟨(He.ga K "ascending"), fd8, F8, (PySem.W.mg_of X G q28), F8.binds (ps := ["words", "size"]) fun _ _ _ _ _ _ us hl => match us, hl with | [_, _], _ => rfl⟩,
    f_Table___init__ := ⟨(He.ma K (He.ga K "Table") "__init__"), fd9, F9, ⟨q31, q32, q30, q33⟩, F9.binds (ps := ["self", "rows"]) fun _ _ _ _ _ _ us hl => match us, hl with | [_, _], _ => rfl⟩,
    f__law_is_int := ⟨(He.ga K "_law_is_int"), fd10, F10, (PySem.W.mg_of X G q35), F10.binds (ps := ["_law_value"]) fun _ _ _ _ _ _ us hl => match us, hl with | [_], _ => rfl⟩,
    f_Table_rows := ⟨(He.ma K (He.ga K "Table") "rows"), fd11, F11, ⟨q38, q37, q36⟩, F11.binds (ps := ["self"]) fun _ _ _ _ _ _ us hl => match us, hl with | [_], _ => rfl⟩,
    f__law_is_words := ⟨(He.ga K "_law_is_words"), fd12, F12, (PySem.W.mg_of X G q40), F12.binds (ps := ["_law_value"]) fun _ _ _ _ _ _ us hl => match us, hl with | [_], _ => rfl⟩,
    f__law_same := ⟨(He.ga K "_law_same"), fd13, F13, (PySem.W.mg_of X G q42), F13.binds (ps := ["_law_table", "_law_rows_here"]) fun _ _ _ _ _ _ us hl => match us, hl with | [_, _], _ => rfl⟩,
    f_Table_identity := ⟨(Hd.cmA K (He.ga K "Table") "identity"), (Hd.recA K (Hd.cmA K (He.ga K "Table") "identity") "classmethod"), fd14, F14, ⟨q44, q45, q46⟩, F14.binds (ps := ["cls", "size"]) fun _ _ _ _ _ _ us hl => match us, hl with | [_, _], _ => rfl⟩,
    f_check_same_size := ⟨(He.ga K "check_same_size"), fd15, F15, (PySem.W.mg_of X G q48), F15.binds (ps := ["first", "second"]) fun _ _ _ _ _ _ us hl => match us, hl with | [_, _], _ => rfl⟩,
    f_Table__out_of_some := ⟨(He.ma K (He.ga K "Table") "_out_of_some"), fd16, F16, ⟨q51, q50, q49⟩, F16.binds (ps := ["self", "words"]) fun _ _ _ _ _ _ us hl => match us, hl with | [_, _], _ => rfl⟩,
    f_Table___mul__ := ⟨(He.ma K (He.ga K "Table") "__mul__"), fd17, F17, q54, q53, F17.binds (ps := ["self", "other"]) fun _ _ _ _ _ _ us hl => match us, hl with | [_, _], _ => rfl⟩,
    f_Table_repeated := ⟨(He.ma K (He.ga K "Table") "repeated"), fd18, F18, ⟨q57, q56, q55⟩, F18.binds (ps := ["self", "count"]) fun _ _ _ _ _ _ us hl => match us, hl with | [_, _], _ => rfl⟩,
    f__law_same_rows := ⟨(He.ga K "_law_same_rows"), fd19, F19, (PySem.W.mg_of X G q59), F19.binds (ps := ["_law_n"]) fun _ _ _ _ _ _ us hl => match us, hl with | [_], _ => rfl⟩,
    f__law_join := ⟨(He.ga K "_law_join"), fd20, F20, (PySem.W.mg_of X G q61), F20.binds (ps := ["_law_first", "_law_last"]) fun _ _ _ _ _ _ us hl => match us, hl with | [_, _], _ => rfl⟩,
    f__law_power := ⟨(He.ga K "_law_power"), fd21, F21, (PySem.W.mg_of X G q63), F21.binds (ps := ["_law_rows_here", "_law_count"]) fun _ _ _ _ _ _ us hl => match us, hl with | [_, _], _ => rfl⟩,
    f__law_count_error := ⟨(He.ga K "_law_count_error"), fd22, F22, (PySem.W.mg_of X G q65), F22.binds (ps := ["_law_table", "_law_count"]) fun _ _ _ _ _ _ us hl => match us, hl with | [_, _], _ => rfl⟩,
    f_law_k07 := ⟨(He.ga K "law"), fd23, F23, (PySem.W.mg_of X G q67), F23.binds (ps := ["_law_script"]) fun _ _ _ _ _ _ us hl => match us, hl with | [_], _ => rfl⟩,
    k_Cast := ⟨q68, q69, q70, q71⟩,
    k_Clues := ⟨q68, q69, q70, q71⟩,
    k_Doubter := ⟨q68, q69, q70, q71⟩,
    k_Knower := ⟨q68, q69, q70, q71⟩,
    k_KnowingDoubter := ⟨q68, q69, q70, q71⟩,
    k_Person := ⟨q68, q69, q70, q71⟩,
    k_Table := ⟨q68, q69, q70, q71⟩,
    n_Cast_size := q72,
    n_Clues_size := q72,
    n_Doubter_size := q72,
    n_Knower_size := q72,
    n_KnowingDoubter_size := q72,
    n_Person_size := q72,
    n_Table__pairs := q73,
    n_Table__rows := q74,
    n_Table_size := q72,
    g_Table := (PySem.W.mg_of X G q75),
    sf_Table := q76,
    r_Table := ⟨q77, q78⟩,
    cv_Table_MOST := q79,
    kit_Table := Hd.kitO_mk (List.forall_mem_cons.mpr ⟨⟨⟨⟨q68, q69, q70, q71⟩, q80, q81, q82, q83, Hd.kit_self⟩, Hd.kit_own q84 q85 q86 q84⟩, fun _ z => nomatch z⟩) (List.forall_mem_cons.mpr ⟨Hd.kit_base q85 q86 q87, List.forall_mem_cons.mpr ⟨Hd.kit_base q85 q86 q88, List.forall_mem_cons.mpr ⟨Hd.kit_base q85 q86 q89, List.forall_mem_cons.mpr ⟨Hd.kit_base q85 q86 q90, List.forall_mem_cons.mpr ⟨Hd.kit_base q85 q86 q91, List.forall_mem_cons.mpr ⟨Hd.kit_base q85 q86 q92, fun _ z => nomatch z⟩⟩⟩⟩⟩⟩),
    errG := ⟨(PySem.W.mg_of X G q93), (PySem.W.mg_of X G q94), (PySem.W.mg_of X G q95), (PySem.W.mg_of X G q96), (PySem.W.mg_of X G q97), (PySem.W.mg_of X G q98), (PySem.W.mg_of X G q99), (PySem.W.mg_of X G q100), (PySem.W.mg_of X G q101), (PySem.W.mg_of X G q102), (PySem.W.mg_of X G q103), (PySem.W.mg_of X G q104), (PySem.W.mg_of X G q105), (PySem.W.mg_of X G q106), (PySem.W.mg_of X G q107), (PySem.W.mg_of X G q108), (PySem.W.mg_of X G q109), (PySem.W.mg_of X G q110), (PySem.W.mg_of X G q111), (PySem.W.mg_of X G q112), (PySem.W.mg_none_of X G q113), (PySem.W.mg_none_of X G q5), (PySem.W.mg_none_of X G q6)⟩,
    e_BadSize := ⟨⟨O24, (PySem.W.mg_of X G q94), _, _, q126, q127, .all fun us hl => match us, hl with | [_, _], _ => rfl, fun w base => ok_BadSizeI T24 q128⟩, ⟨⟨q129, q130, q116, q131, q132, q81, q82, q133⟩, Hd.kit_own q134 q190 q191 q192, Hd.kitV_ty q120, true, false, false, false, false, false, false, false, false, false, false, false, false, false, false, false, false, false, false, Hd.kit_own q134 q135 q117 q134, Hd.kit_own q134 q136 q137 q138, Hd.kit_own q134 q139 q140 q141, Hd.kit_own q134 q142 q143 q144, Hd.kit_own q134 q145 q146 q147, Hd.kit_own q134 q148 q149 q150, Hd.kit_own q134 q151 q152 q153, Hd.kit_own q134 q154 q155 q156, Hd.kit_own q134 q157 q158 q159, Hd.kit_own q134 q160 q161 q162, Hd.kit_own q134 q163 q164 q165, Hd.kit_own q134 q166 q167 q168, Hd.kit_own q134 q169 q170 q171, Hd.kit_own q134 q172 q173 q174, Hd.kit_own q134 q175 q176 q177, Hd.kit_own q134 q178 q179 q180, Hd.kit_own q134 q181 q182 q183, Hd.kit_own q134 q184 q185 q186, Hd.kit_own q134 q187 q188 q189, by decide⟩, fun n hn => by
      rcases List.mem_cons.mp hn with e | hn
      · rw [e]; exact q128
      cases hn⟩,
    e_BadTable := ⟨⟨O25, (PySem.W.mg_of X G q95), _, _, q202, q203, .all fun us hl => match us, hl with | [_, _], _ => rfl, fun w base => ok_BadTableI T25 q204⟩, ⟨⟨q205, q206, q195, q207, q208, q81, q82, q209⟩, Hd.kit_own q210 q190 q191 q229, Hd.kitV_ty q198, false, true, false, false, false, false, false, false, false, false, false, false, false, false, false, false, false, false, false, Hd.kit_own q210 q135 q117 q211, Hd.kit_own q210 q136 q137 q210, Hd.kit_own q210 q139 q140 q212, Hd.kit_own q210 q142 q143 q213, Hd.kit_own q210 q145 q146 q214, Hd.kit_own q210 q148 q149 q215, Hd.kit_own q210 q151 q152 q216, Hd.kit_own q210 q154 q155 q217, Hd.kit_own q210 q157 q158 q218, Hd.kit_own q210 q160 q161 q219, Hd.kit_own q210 q163 q164 q220, Hd.kit_own q210 q166 q167 q221, Hd.kit_own q210 q169 q170 q222, Hd.kit_own q210 q172 q173 q223, Hd.kit_own q210 q175 q176 q224, Hd.kit_own q210 q178 q179 q225, Hd.kit_own q210 q181 q182 q226, Hd.kit_own q210 q184 q185 q227, Hd.kit_own q210 q187 q188 q228, by decide⟩, fun n hn => by
      rcases List.mem_cons.mp hn with e | hn
      · rw [e]; exact q204
      cases hn⟩,
    e_SizeMismatch := ⟨⟨O26, (PySem.W.mg_of X G q97), _, _, q239, q240, .all fun us hl => match us, hl with | [_, _, _], _ => rfl, fun w base => ok_SizeMismatchI T26 q241 q242⟩, ⟨⟨q243, q244, q232, q245, q246, q81, q82, q247⟩, Hd.kit_own q248 q190 q191 q267, Hd.kitV_ty q235, false, false, false, true, false, false, false, false, false, false, false, false, false, false, false, false, false, false, false, Hd.kit_own q248 q135 q117 q249, Hd.kit_own q248 q136 q137 q250, Hd.kit_own q248 q139 q140 q251, Hd.kit_own q248 q142 q143 q248, Hd.kit_own q248 q145 q146 q252, Hd.kit_own q248 q148 q149 q253, Hd.kit_own q248 q151 q152 q254, Hd.kit_own q248 q154 q155 q255, Hd.kit_own q248 q157 q158 q256, Hd.kit_own q248 q160 q161 q257, Hd.kit_own q248 q163 q164 q258, Hd.kit_own q248 q166 q167 q259, Hd.kit_own q248 q169 q170 q260, Hd.kit_own q248 q172 q173 q261, Hd.kit_own q248 q175 q176 q262, Hd.kit_own q248 q178 q179 q263, Hd.kit_own q248 q181 q182 q264, Hd.kit_own q248 q184 q185 q265, Hd.kit_own q248 q187 q188 q266, by decide⟩, fun n hn => by
      rcases List.mem_cons.mp hn with e | hn
      · rw [e]; exact q241
      rcases List.mem_cons.mp hn with e | hn
      · rw [e]; exact q242
      cases hn⟩,
    e_BadCount := ⟨⟨O27, (PySem.W.mg_of X G q98), _, _, q277, q278, .all fun us hl => match us, hl with | [_, _], _ => rfl, fun w base => ok_BadCountI T27 q279⟩, ⟨⟨q280, q281, q270, q282, q283, q81, q82, q284⟩, Hd.kit_own q285 q190 q191 q304, Hd.kitV_ty q273, false, false, false, false, true, false, false, false, false, false, false, false, false, false, false, false, false, false, false, Hd.kit_own q285 q135 q117 q286, Hd.kit_own q285 q136 q137 q287, Hd.kit_own q285 q139 q140 q288, Hd.kit_own q285 q142 q143 q289, Hd.kit_own q285 q145 q146 q285, Hd.kit_own q285 q148 q149 q290, Hd.kit_own q285 q151 q152 q291, Hd.kit_own q285 q154 q155 q292, Hd.kit_own q285 q157 q158 q293, Hd.kit_own q285 q160 q161 q294, Hd.kit_own q285 q163 q164 q295, Hd.kit_own q285 q166 q167 q296, Hd.kit_own q285 q169 q170 q297, Hd.kit_own q285 q172 q173 q298, Hd.kit_own q285 q175 q176 q299, Hd.kit_own q285 q178 q179 q300, Hd.kit_own q285 q181 q182 q301, Hd.kit_own q285 q184 q185 q302, Hd.kit_own q285 q187 q188 q303, by decide⟩, fun n hn => by
      rcases List.mem_cons.mp hn with e | hn
      · rw [e]; exact q279
      cases hn⟩,
    x_4_4 := PySem.W.exm_ref q270 q282 q146 q285,
    f__law_single := ⟨(He.ga K "_law_single"), fd28, F28, (PySem.W.mg_of X G q306), F28.binds (ps := ["_law_e"]) fun _ _ _ _ _ _ us hl => match us, hl with | [_], _ => rfl⟩
  }
theorem hd_facts {w : World} {K : PySem.W.Frag} {h : Heap} {mg : Str → Option Value} {fa : Addr} (X : K.In h) (G : h.Ns mainGlobals mg) (hfa : mg "law" = some (.ref fa)) (c : Hd.SaysB hdB hdF K) :
    ∃ fd : FuncData, (∀ (s : Shared) (v : Value), BindsTo s fd ⟨[v], []⟩ [("_law_script", v)]) ∧ ∀ base : Heap, K.In base → base.Ns mainGlobals mg → Dl.FnG (PySem.Challenge.rw_murmurline_k07_whole_repeated).prog w K mg base 9 fa fd ["_law_script"] (Dl.spLaw K) := by
  have A := hd_al X G c
  obtain ⟨f, fd, i, b, o⟩ := ok_law_k07 (w := w) A Fn.law_k07
  have e : f = fa := by rw [hfa] at i; cases i; rfl
  subst e
  exact ⟨fd, b, fun base _ _ => o base⟩
end Dg
open PySem PySem.W PyProof.Rows in
set_option maxRecDepth 100000 in
set_option maxHeartbeats 0 in
theorem PySem.Challenge.cw_murmurline_k07_whole_repeated_holds : PySem.Challenge.rw_murmurline_k07_whole_repeated.Holds := by
  w_on; o_law
  refine HandSHeadRun.head_any (r := OpenLaw.row PySem.Challenge.rw_murmurline_k07_whole_repeated) (q := view (OpenLaw.row PySem.Challenge.rw_murmurline_k07_whole_repeated).prog [45]) (H := Dg.hdH) (ob := Dg.hdO) (M := 12000) (loose := Dg.hdN) (d := HandSHeadRun.topDef (OpenLaw.row PySem.Challenge.rw_murmurline_k07_whole_repeated).prog 45) (kwd := []) Dg.hdO_eq
    (by kernel_rfl) (fun s => by kernel_rfl) Dg.hd_run (by kernel_rfl) (by kernel_rfl) (by kernel_rfl) (by rfl) (by first | assumption | decide +kernel) (by decide +kernel) ⟨rfl, rfl, rfl, rfl, rfl, by decide +kernel⟩ ?hw ?hc
  case hw => w_witness2
  case hc =>
    refine Dl.walk_ofG (l := PySem.Challenge.rw_murmurline_k07_whole_repeated) (n := 63) (k := 9) (x := "_law_script") rfl (by decide) (by kernel_rfl) ⟨rfl, by decide, by decide⟩ ?F
    intro w mg fa h Y G hmg0
    obtain ⟨K, KX, c⟩ := Y
    have hmg : mg ("law" : PySem.Str) = some (.ref fa) := by
      have e : (HandSHeadRun.topDef (OpenLaw.row PySem.Challenge.rw_murmurline_k07_whole_repeated).prog 45).name = ("law" : PySem.Str) := by kernel_rfl
      rw [← e]
      exact hmg0
    obtain ⟨fd, hb, hF⟩ := Dg.hd_facts (w := w) KX G hmg c
    exact ⟨K, fd, Dl.spLaw K, KX, hb, fun H a ns hl _ hS => ⟨a, ns, rfl, hS, hl, fun _ => rfl⟩, hF⟩
