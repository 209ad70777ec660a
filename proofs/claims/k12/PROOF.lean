import PyProof.Rows.All
import Wide.All
import OpenK.AllK
import Wide.FinOn
import KE.KExcSuper
import HandS.ForMost
import HandS.ForExc
import HandS.ExcInit
import HandS.ExcSuper
import HandS.FStr
import HandS.Nested
import HandS.ExcField
import HandS.ExcCtx
import HandS.Comp
import HandS.Hot
import HandS.HotCalls
import KE.KExcIs
import KE.KIsAll
import HandS.ExcIs
import HandS.Star
import HandS.IsInst
import HandS.ClsMeth
import HandS.Walk
import HandS.SlotsOwn
import KE.GoesEnum
import HandS.Codes
import HandS.Deep
import HandS.Conv
import HandS.Style
import HandS.Property
import KE.RegKSuper
import PySem.Challenge.RW_murmurline_k12_person_said
set_option Elab.async false
set_option linter.all false
set_option maxRecDepth 100000
set_option maxHeartbeats 4000000
set_option exponentiation.threshold 2000
/-! ## super().__init__(e) ahead of an own exception's stores -/
namespace SupX
open PySem PySem.Spec PyProof.Rows PySem.W L2
section
variable {prog : Program} {w : World} {A : Around} {E : Value → Shared → Prop} {h : Heap} {g : Array GenState} {d : Drawn} {t : Nat} {os : OsState}
variable {nm q : Str} {C N : Addr} {bs bm : List Value} {hdct : Bool} {sn : List Str} {sub : List Value} {ab : Bool} {col : Option Bool} {dd : Option Addr} {k0 k1 k2 k3 k5 : Option Value}
/-- the bound wrapper of ValueError.__init__ is called: the error's args are laid anew -/
theorem call_kw {u e t0 : Addr} {ws : List Value} {Q : Value → Shared → Prop} (oC : h.get? C = some (excClassObj nm q C N bs bm hdct sn sub ab col dd k0 k1 k2 k3 k5 "ValueError.__new__")) (oe : h.get? e = some (HandSPX.excO C t0))
    (ou : h.get? u = some (kxs_mw "ValueError.__init__" e)) (small : ws.length ≤ sizeLine) (k : ∀ h1 t1, (∀ b o, b ≠ e → h.get? b = some o → h1.get? b = some o) → h1.get? e = some (HandSPX.excO C t1) → Q .none ⟨h1, g, d, t, os⟩) :
    wpAny (model prog w) A (call (.ref u) ws) Q E ⟨h, g, d, t, os⟩ := by
  have FB := F.excBase_ValueError
  apply wpAny_call
  apply codeAny_of_tree
  change wpAny _ A.in1 (callAny (.ref u) ⟨ws, []⟩) _ _ _
  unfold callAny
  apply wpAny_bind
  apply wpAny_load ou
  have kind : (((kxs_mw "ValueError.__init__" e).cls == .type "method" || (kxs_mw "ValueError.__init__" e).cls == .type "builtin_function_or_method") || (kxs_mw "ValueError.__init__" e).cls == .type "method-wrapper") = true := by
    have z : (kxs_mw "ValueError.__init__" e).cls = .type "method-wrapper" := rfl
    rw [z]
    decide
  refine W.KFB.if_so kind (wpAny_bind (check_bound_init FB.toExcCallFacts oC oe rfl (wpAny_bind (wpAny_pure (wpAny_pure ?_)))))
  refine ⟨plainId_quiet FB.init.plain _, codeAny_builtin FB.initEntry ?_⟩
  exact exc_init_tree (cls := .ref C) (t0 := t0) (dv := none) (c2 := .none) (c3 := .none) (b4 := .bool false) oe small fun h1 k1 e1 _ => k h1 _ k1 e1
end
/-- a body's end, told as a call's end -/
theorem ce_of {X : Cx} (ex : X.ex = []) {Q : VK} : ∀ {fl : Flow} {s' : Shared}, SP X [] { nx := fun _ H' => Q .non H', rt := Q } fl s' → CR CX0 X.outer X.prog X.w X.H_0 X.s_0 Q E0 (.ok (.ret (match fl with | .ret v => v | _ => .none))) s'
  | .ret _, _, ⟨v, _, H1, J, r, k⟩ => ⟨v, H1, J.os, J.bare, ex ▸ J.base, J.hok, r, k⟩
  | .next, _, ⟨_, H1, J, k⟩ => ⟨.non, H1, J.os, J.bare, ex ▸ J.base, J.hok, rfl, k⟩
  | .brk, _, ⟨_, _, _, k⟩ => k.elim
  | .cont, _, ⟨_, _, _, k⟩ => k.elim
/-- what the written part says of an own exception's __init__ that begins with super().__init__ -/
structure SupC (P : Program) (K : PySem.W.Frag) (mg : Str → Option Value) (C : Addr) : Prop where
  T : OexC K C
  self : mroIn K C (.ref C) = some true
  noS : mg "super" = none
  top : (P.main.scope.names.lookup ("super" : Str)).isSome = false
  st : nsIn K cStatics "thirdparty.any" = some none
  al : ks_superIn K C C "__init__" = some (some (.builtin "ValueError.__init__"))
  vE : subIn K (.ref C) (.type "ValueError") = some true
section
variable {P : Program} {w : World} {K : PySem.W.Frag} {mg : Str → Option Value} {base : Heap} {CX : CXT} {k : Nat} {f cda cc C : Addr} {name qual : Str} {params : Arguments} {rest : List Stmt} {scope : Scope} {kV doc pm ct oc ccl cl : Value} {an od cdd cld : Option Addr} {osl ccs csl : Array (Option Value)}
  {vs0 : Array Value} {file : Str} {tf : Tok} {ps N : List Str} {sp : Sp} {p0 p1 p2 pos pos' : Pos} {arg : Expr} {ar : Arg}
abbrev nfOf (name qual : Str) (params : Arguments) (body : List Stmt) (scope : Scope) (cc cda : Addr) : NdefX.NF := ⟨name, qual, params, body, scope, [("__class__", cc)], cda⟩
theorem fn_sup (U : SupC P K mg C)
    (lk : K.lookup f = some ⟨oc, od, .func (ksFn name qual params (.Expr (.Call (.Attribute (.Call (.Name "super" p0) [] [] p1) "__init__" p2) [arg] [] pos) pos' :: rest) scope .none kV doc pm an (.ref cda) ct cc), osl⟩)
    (hcd : codeIn K (.ref cda) qual = true) (hcode : K.lookup cda = some ⟨ccl, cdd, .fields vs0, ccs⟩) (hvs : vs0[2]? = some (.str file tf)) (hfile : ((P.main.file : Str) == file) = true)
    (hcell : K.lookup cc = some ⟨cl, cld, .cell (some (.ref C)), csl⟩)
    (S : NdefX.NScope N ps ["__class__"] scope) (hks : scope.names.lookup ("super" : Str) = some .globalImplicit) (hp : (params.posonlyargs ++ params.args).head? = some ar) (hps : ps.head? = some ar.arg)
    (hev : ∀ env : Env, ∃ pl, eval (.Call (.Attribute (.Call (.Name "super" p0) [] [] p1) "__init__" p2) [arg] [] pos) env = (do
      let ov ← attributeBase (.Call (.Name "super" p0) [] [] p1) "__init__" env (eval (.Call (.Name "super" p0) [] [] p1) env)
      standAt p2.atName
      let (f, first) ← holding [ov] (getMethod ov "__init__" pl)
      callWith pos f first (backTo pos (starEach [arg] env)) []))
    (hse : ∀ env, starEach [arg] env = (false, eval arg env) :: starEach [] env) (hsw : ∀ env, swapsWith (.Call (.Attribute (.Call (.Name "super" p0) [] [] p1) "__init__" p2) [arg] [] pos) none pos'.line env = pure false)
    (len : ∀ vs H Q E, sp vs H Q E → vs.length = ps.length)
    (hbody : ∀ (A : Around) (outer : List Env) (s : Shared) (H : Hp) (vs : List V) (Q : VK) (E : XK), Room k (A.deeper (NdefX.envF (nfOf name qual params (.Expr (.Call (.Attribute (.Call (.Name "super" p0) [] [] p1) "__init__" p2) [arg] [] pos) pos' :: rest) scope cc cda) f s.heap.objs.size)) → sp vs H Q E →
      ∃ (a : Addr) (ta : TA) (t : TS), vs.head? = some (.ref a) ∧ H a = some (exo a C none) ∧
        PA (NdefX.ncx CX P w K mg base N (nfOf name qual params (.Expr (.Call (.Attribute (.Call (.Name "super" p0) [] [] p1) "__init__" p2) [arg] [] pos) pos' :: rest) scope cc cda) f A outer s H E) [arg] ta ∧
        PSs (NdefX.ncx CX P w K mg base N (nfOf name qual params (.Expr (.Call (.Attribute (.Call (.Name "super" p0) [] [] p1) "__init__" p2) [arg] [] pos) pos' :: rest) scope cc cda) f A outer s H E) rest t ∧
        ta (NdefX.startF N vs [none]) H (fun us H1 => us.length ≤ 1000 ∧ H1 a = some (exo a C none) ∧ t { nx := fun _ H' => Q .non H', rt := Q } (NdefX.startF N vs [none]) H1)) :
    FnOk P w K mg base CX (k + 1) f (ksFn name qual params (.Expr (.Call (.Attribute (.Call (.Name "super" p0) [] [] p1) "__init__" p2) [arg] [] pos) pos' :: rest) scope .none kV doc pm an (.ref cda) ct cc) ps sp := by
  constructor
  · exact len
  intro A outer s H args us vs Q E hr e0 hb r hsp
  have hl := len _ _ _ _ hsp
  have stays : ∀ b o, base.get? b = some o → s.heap.get? b = some o := fun b o e => (e0.bs b o e).1
  have KX := e0.mod.kin.keeps stays
  obtain ⟨a, ta, t, hva, hHa, hPA, hPS, hta⟩ := hbody A outer s H vs Q E (hr.deeper _) hsp
  refine ks_codeAny_call_defAt (fd := ksFn name qual params _ scope .none kV doc pm an (.ref cda) ct cc) (binds := ps.zip us) hr.depth (KX _ _ lk) rfl (e0.mod.nolimit.keeps stays) (codeRec_of KX hcd) rfl hb (fun y hy => S.nocell y hy) (fun y hy => S.par y.1 (List.of_mem_zip hy).1) (fun h₁ hns kp => ?_) S.co S.gen S.kind
  have hcl : ([("__class__", cc)] : List (Str × Addr)).lookup ("__class__" : Str) = some cc := by simp [List.lookup]
  have ccO : s.heap.get? cc = some ⟨cl, cld, .cell (some (.ref C)), csl⟩ := KX _ _ hcell
  have onlyc : ∀ y c, ([("__class__", cc)] : List (Str × Addr)).lookup y = some c → y = "__class__" ∧ c = cc := fun y c e => by
    by_cases hy : y = "__class__"
    · subst hy
      rw [hcl] at e
      exact ⟨rfl, (Option.some.inj e).symm⟩
    · have q : (y == ("__class__" : Str)) = false := by simpa using hy
      simp [List.lookup, q] at e
  have CA : NdefX.CellsAt [("__class__", cc)] ["__class__"] [none] s.heap H := {
    len := rfl
    all := fun y c e => by
      obtain ⟨_, rfl⟩ := onlyc y c e
      exact ⟨(e0.bs _ _ (e0.mod.kin _ _ hcell)).2, _, _, ccO, rfl⟩
    inj := fun x y c e1 e2 => by rw [(onlyc x c e1).1, (onlyc y c e2).1]
    has := fun i y e => by
      cases i with
      | zero =>
        cases e
        exact ⟨cc, hcl, fun v z => by cases z⟩
      | succ i => cases e }
  have I := NdefX.inv_startN (CX := CX) (F := nfOf name qual params (.Expr (.Call (.Attribute (.Call (.Name "super" p0) [] [] p1) "__init__" p2) [arg] [] pos) pos' :: rest) scope cc cda) (f := f) (E := E) (tk := s.toks + (ps.zip us).length) S hr.hd e0 hl r CA hns kp
  -- the object
  obtain ⟨u0, hu0, ru0⟩ : ∃ u0, us[0]? = some u0 ∧ RelV (.ref a) u0 := r.get (by rw [← List.head?_eq_getElem?]; exact hva)
  cases (show u0 = Value.ref a from ru0)
  have hself : (ps.zip us).reverse.lookup ar.arg = some (.ref a) := by
    have ndP : ps.Nodup := by
      have q := S.nd.sublist (List.take_sublist (ps.length + (["__class__"] : List Str).length) N)
      rw [S.pre] at q
      exact (List.nodup_append.mp q).1
    exact NdefX.zip_look (i := 0) ndP (by rw [← List.head?_eq_getElem?]; exact hps) hu0
  have hka : scope.names.lookup ar.arg = some .local := S.par _ (List.mem_of_getElem? (i := 0) (by rw [← List.head?_eq_getElem?]; exact hps))
  have hkc : scope.names.lookup ("__class__" : Str) = some .free := S.frk _ (by simp)
  have K1 : K.In h₁ := KX.keeps kp
  obtain ⟨nm, q, N', bs, bm, sn, sub, ab, col, dd, k0, k1, k2, k3, k5, hC, hbm⟩ := U.T.cls
  have hcd' : clsIn K C = some { name := nm, bases := bs, mro := .ref C :: bm, ns := N', qualname := q, hasDict := true, slotNames := sn, subclasses := sub, abstract := ab, collection := col, hasDel := false } := by unfold clsIn; rw [hC] <;> rfl
  obtain ⟨t1, ho⟩ := exo_at I.hok hHa
  obtain ⟨pl, hpl⟩ := hev (NdefX.envF (nfOf name qual params (.Expr (.Call (.Attribute (.Call (.Name "super" p0) [] [] p1) "__init__" p2) [arg] [] pos) pos' :: rest) scope cc cda) f s.heap.objs.size)
  refine ks_wpAt_execs_cons (ks_wpAt_Expr_any (ks_wpAt_MethodCall (pl := pl) ?_ hpl) (by show (scope.kind == .module && _) = false; rw [S.kind]; rfl) (hsw _))
  have oD : h₁.get? C = some (excClassObj nm q C N' bs bm true sn sub ab col dd k0 k1 k2 k3 k5 "ValueError.__new__") := K1 _ _ hC
  obtain ⟨mb, hb1, hb2⟩ := e0.mod.blt
  have bk : ∀ b o, base.get? b = some o → h₁.get? b = some o := fun b o e => kp b o (e0.bs b o e).1
  refine ks_wpAt_super_base (env := NdefX.envF (nfOf name qual params (.Expr (.Call (.Attribute (.Call (.Name "super" p0) [] [] p1) "__init__" p2) [arg] [] pos) pos' :: rest) scope cc cda) f s.heap.objs.size) hks hkc (by decide) rfl (K1 _ _ lk) rfl hp rfl (K1 _ _ hcode) rfl hvs hfile U.top ?_
  refine ks_loadName_global S.kind hks (Calls.loadGlobal_builtin (env := NdefX.envF (nfOf name qual params (.Expr (.Call (.Attribute (.Call (.Name "super" p0) [] [] p1) "__init__" p2) [arg] [] pos) pos' :: rest) scope cc cda) f s.heap.objs.size) (e0.mod.glob.keeps bk) U.noS (hb1.keeps bk) ((hb2 "super" (by decide)).trans (by decide +kernel : bootBuiltins "super" = some (.type "super"))) ⟨rfl, ?_⟩)
  refine wpAny_loadName_free S.kind hkc hcl ⟨_, K1 _ _ hcell, rfl⟩ ?_
  refine wpAny_loadName_local S.kind hka hns hself ?_
  refine ks_wpAny_isType_cls oD rfl ⟨rfl, ?_⟩
  refine ks_wpAny_call_super oD rfl ho rfl (fun c z => by cases z) (looks_mroIn K1 U.self) (fun h2 e2 k2 => ?_)
  have K2 : K.In h2 := K1.keeps k2
  have hx2 := k2 _ _ ho
  have Iat : InstAt h2 a { cls := .ref C, dict := none, data := .fields #[.ref t1, .none, .none, .none, .bool false, .none] } C none := ⟨hx2, rfl, rfl, trivial⟩
  have hal := U.al
  unfold ks_superIn at hal
  rw [hcd'] at hal
  have I2 := I.kept (h' := h2) (t' := s.toks + (ps.zip us).length + 1) k2
  refine kxs_getMethod kxs_ValueError e2 (looks_opaque K2 U.st) (l₀ := .ref C :: bm) (fun A Q E s k q => wpAny_bind ((looks_clsIn K2 hcd') A _ E s k (wpAny_pure q))) rfl K2 hal (Iat.type.andThen (looks_subIn K2 U.vE)) (ks_ne K2 Iat hcd') (by decide) ?_
  have I3 := I2.kept (h' := h2.push (kxs_mw "ValueError.__init__" a)) (t' := s.toks + (ps.zip us).length + 1) fun b o e => Heap.get?_push_of_some _ e
  have hu3 : (h2.push (kxs_mw "ValueError.__init__" a)).get? h2.objs.size = some (kxs_mw "ValueError.__init__" a) := Heap.get?_push_at rfl rfl
  have I4 := I3.pins_of (pins' := [(h2.objs.size, kxs_mw "ValueError.__init__" a)]) fun p hp => by
    rw [List.mem_singleton] at hp
    subst hp
    exact ⟨hu3, I2.hok.fresh (Nat.le_refl _), Nat.ne_of_gt I2.lt, I2.nofs (Nat.le_refl _), fun v z => by cases z⟩
  show wpAny _ _ (callWith pos (.ref h2.objs.size) [] (backTo pos (starEach [arg] (NdefX.envF (nfOf name qual params (.Expr (.Call (.Attribute (.Call (.Name "super" p0) [] [] p1) "__init__" p2) [arg] [] pos) pos' :: rest) scope cc cda) f s.heap.objs.size))) []) _ _ _
  have ev := hPA.run pos [(h2.objs.size, kxs_mw "ValueError.__init__" a)] _ _ H _ I4 hta
  rw [show (NdefX.ncx CX P w K mg base N (nfOf name qual params (.Expr (.Call (.Attribute (.Call (.Name "super" p0) [] [] p1) "__init__" p2) [arg] [] pos) pos' :: rest) scope cc cda) f A outer s H E).env = NdefX.envF (nfOf name qual params (.Expr (.Call (.Attribute (.Call (.Name "super" p0) [] [] p1) "__init__" p2) [arg] [] pos) pos' :: rest) scope cc cda) f s.heap.objs.size from rfl, hse] at ev
  rw [hse]
  refine kxs_callWith (i := "ValueError.__init__") (x := a) (by rfl) (Calls.evalArgs_plain (thn ev fun us1 s4 hh => ?_))
  obtain ⟨vs1, H1, J, r1, hlen, ha1, ht⟩ := hh
  have hu4 := (J.pin (h2.objs.size, kxs_mw "ValueError.__init__" a) (List.mem_append_right _ (by simp))).1
  refine ⟨hu4, ?_⟩
  obtain ⟨t2, ho4⟩ := exo_at J.hok ha1
  have hC4 := J.kIn _ _ hC
  obtain ⟨h4, g4, d4, t4, os4⟩ := s4
  show wpAny _ _ (call (.ref h2.objs.size) us1 []) _ _ _
  refine call_kw hC4 ho4 hu4 (by rw [← Paired.length r1, sizeLine_eq]; omega) fun h5 t5 k5 hx5 => ?_
  have J0 := J.pins_of (pins' := []) fun p hp => nomatch hp
  have J5 := J0.write (t' := t4) (x := a) (e := a) (o := exo a C none) (h' := h5) (by rw [ha1]; exact True.intro) (.inl rfl) k5 ⟨_, hx5⟩ (exo_ok hx5)
  have eu : upd H1 a (exo a C none) = H1 := by
    funext b
    by_cases hb : b = a
    · rw [hb, upd_same, ha1]
    · rw [upd_ne hb]
  rw [eu] at J5
  exact wpAt_of_wpAny (wpAny_mono (hPS.run [] _ _ H1 _ J5 ht) (fun fl s' hs => ce_of (X := NdefX.ncx CX P w K mg base N (nfOf name qual params (.Expr (.Call (.Attribute (.Call (.Name "super" p0) [] [] p1) "__init__" p2) [arg] [] pos) pos' :: rest) scope cc cda) f A outer s H E) rfl hs) fun e s' hs => hs)
end
end SupX
namespace Toy
open PySem PySem.Spec PyProof.Rows L2
/-! ### errors with one whole number -/
abbrev topE (i : Nat) : Stmt := PySem.Challenge.pw_murmurline_k12_person_said.main.body.getD i (.Pass ⟨0, 0, 0, 0⟩)
theorem str_le {n : Nat} (h : n ≤ 100000) : n ≤ sizeLine := Nat.le_trans h (by decide)
theorem int_le {i : Int} (h : i.natAbs.log2 < 1920) : (PySem.Str.ofString (toString i)).length ≤ 1921 := int_text_len_1921 h
/-- what an error's text can show -/
def Pr (v : V) : Prop := (∃ i : Int, v = .int i ∧ i.natAbs.log2 < 1920) ∨ ∃ y : Str, v = .str y ∧ y.length ≤ 1921
theorem Pr.int {i : Int} (h : i.natAbs < 2 ^ 1000) : Pr (.int i) := .inl ⟨i, rfl, by
  by_cases z : i.natAbs = 0
  · rw [z]; decide
  · exact Nat.lt_trans ((Nat.log2_lt z).mpr h) (by decide)⟩
/-- C's __init__: the error at a gets its own dict with the fields -/
def spEr (C : Addr) (flds : List Str) : Sp := fun vs H Q _ => ∃ (a : Addr) (xs : List V), vs = .ref a :: xs ∧ xs.length = flds.length ∧ (∀ v ∈ xs, Pr v) ∧ H a = some (exo a C none) ∧
  ∀ H2 dx, H dx = none → dx ≠ a → (∀ b, b ≠ a → b ≠ dx → H2 b = H b) → H2 a = some (exo a C (some dx)) → H2 dx = some (exd dx (flds.zip xs).reverse) → Q .non H2
/-- what the written part says of an error's class -/
structure Er (P : Program) (K : PySem.W.Frag) (mg : Str → Option Value) (x : Str) (flds : List Str) (C : Addr) : Prop where
  T : OexC K C
  gC : mg x = some (.ref C)
  init : ∃ fI fd, PySem.W.findIn K (.ref C) "__init__" = some (some (.ref fI)) ∧ PySem.W.typeIn K (.ref fI) = some (.type "function") ∧ Binds K fd ("self" :: flds) [] ∧ ∀ (w : World) (base : Heap), FnOk P w K mg base CX0 1 fI fd ("self" :: flds) (spEr C flds)
theorem made_eq {H H2 : Hp} {a d : Addr} {o : HO} (ha : H a = none) (h2 : ∀ b, b ≠ a → b ≠ d → H2 b = upd H a o b) (fs : List (Str × V)) : upd (del H2 a) d (.xd fs) = upd H d (.xd fs) := by
  funext b
  by_cases hb : b = d
  · rw [hb, upd_same, upd_same]
  · rw [upd_ne hb, upd_ne hb]
    by_cases hba : b = a
    · rw [hba, del_same, ha]
    · rw [del_ne hba, h2 b hba hb, upd_ne hba]
/-- C(..) is made -/
def tMkEr (C : Addr) (flds : List Str) (ta : TA) : L2.St → Hp → XK → Prop := fun σ H Q => ta σ H fun vs H1 => vs.length = flds.length ∧ (∀ v ∈ vs, Pr v) ∧ ∀ d, H1 d = none → Q (.ref C) (some d) (upd H1 d (.xd (flds.zip vs).reverse))
theorem pmk_er {X : Cx} {x : Str} {flds : List Str} {C : Addr} {e : Expr} {es : List Expr} {ta : TA} {p pos : Pos} (R : Er X.prog X.K X.mg x flds C) (hr : Room 2 X.A) (ha : PA X (e :: es) ta) (hfl : flds.length ≤ 1000) (hg : Gl X x)
    (hdb : (x == ("__debug__" : Str)) = false) (he : starEach (e :: es) X.env = (false, eval e X.env) :: starEach es X.env) (hpl : (backTo pos (starEach es X.env)).any (·.1) = false) :
    L2N.PMk X (.Call (.Name x p) (e :: es) [] pos) (tMkEr C flds ta) := by
  have ⟨fI, fd, iC, tI, hb, F⟩ := R.init
  have ⟨nm, q0, N, bs, bm, sn, sub, ab, col, dd, k0, k1, k2, k3, k5, hC, hbm⟩ := R.T.cls
  intro pins s σ H Q I h
  refine wpAny_Call_Name_kw (ld_glob I hg R.gC ?_ hdb)
  refine PySem.W.callWith_K (h₀ := X.base) I.ok.mod.kin R.T.kC (thn (ha.run pos pins s σ H _ I h) fun us s1 hh => ?_) he hpl
  have ⟨vs, H1, I1, r1, hl, hp, q⟩ := hh
  refine ⟨I1.kIn, ?_⟩
  change wpAny _ _ (call (.ref C) us) _ _ _
  obtain ⟨h1, g, dr, tk, os⟩ := s1
  -- the error's object e behind its args
  have big : h1.objs.size ≤ h1.objs.size + 1 := Nat.le_succ _
  generalize ee : h1.objs.size + 1 = e1 at big
  have none1 : H1 e1 = none := I1.hok.fresh big
  have keep : ∀ b o, h1.get? b = some o → ((h1.push (PySem.W.kdv_tup us)).push (PySem.HandSPX.excO C h1.objs.size)).get? b = some o := fun b o z => Heap.get?_push_of_some _ (Heap.get?_push_of_some _ z)
  have there : ((h1.push (PySem.W.kdv_tup us)).push (PySem.HandSPX.excO C h1.objs.size)).get? e1 = some (PySem.HandSPX.excO C h1.objs.size) := by rw [← ee]; heap_get
  have I2 : Inv X pins σ (upd H1 e1 (exo e1 C none)) ⟨(h1.push (PySem.W.kdv_tup us)).push (PySem.HandSPX.excO C h1.objs.size), g, dr, tk, os⟩ := I1.laid (t' := tk) keep big (exo_ok there)
  have few : us.length ≤ sizeLine := by
    have z := Paired.length r1
    rw [← z, sizeLine_eq]
    omega
  have want : spEr C flds (.ref e1 :: vs) (upd H1 e1 (exo e1 C none)) (fun v H2 => v = .non ∧ ∃ (d : Addr) (fs : List (Str × V)), H2 e1 = some (exo e1 C (some d)) ∧ H2 d = some (exd d fs) ∧ H1 d = none ∧ Q (.ref C) (some d) (upd (del H2 e1) d (.xd fs))) E0 :=
    ⟨e1, vs, rfl, hl, hp, upd_same, fun H2 dx hdx hne h2 ea ed => by
      rw [upd_ne hne] at hdx
      refine ⟨rfl, dx, _, ea, ed, hdx, ?_⟩
      rw [made_eq none1 h2]
      exact q dx hdx⟩
  have vals : Vals (V.ref e1 :: vs) (Value.ref e1 :: us) := .cons rfl r1
  have binds := hb ⟨(h1.push (PySem.W.kdv_tup us)).push (PySem.HandSPX.excO C h1.objs.size), g, dr, tk, os⟩ (Value.ref e1 :: us) I2.kIn (by rw [List.append_nil, ← vals.length, (F X.w X.base).len _ _ _ _ want])
  rw [List.append_nil] at binds
  have run := (F X.w X.base).run (X.A.under (.builtin "type.__call__" ⟨.ref C :: us, []⟩)) X.stack ⟨(h1.push (PySem.W.kdv_tup us)).push (PySem.HandSPX.excO C h1.objs.size), g, dr, tk, os⟩ _ ⟨Value.ref e1 :: us, []⟩ _ _ _ E0 (hr.make C us []) (I2.env0.make C us []) binds vals want
  refine wpAny_call (PySem.HandSPX.call_own PySem.F.excBase_ValueError (fun Y => PySem.HandSPX.refsVE_contains Y bm hbm) (I1.kIn _ _ hC) (PySem.W.looks_findIn I1.kIn iC) (fun self => PySem.W.bind_fn I1.kIn self tI) few ?_)
  rw [ee]
  refine codeAny_mono run fun r s' out => ?_
  match r, out with
  | .ok (.ret u), ⟨v, H2, o2, b2, u2, ok2, rv, ev, d, fs, ea, ed, n1, qq⟩ =>
    subst ev
    have ⟨t0, G, J, kG, ge, ho, na⟩ := mk_end0 (d2 := s'.drawn) (t2 := s'.toks) I1 big keep u2 ok2 o2 b2 ea ed n1
    exact ⟨rv, e1, _, _, _, _, .ref C, some d, rfl, J, kG, ge, ho, ⟨rfl, rfl, fun ws e => by cases e; rfl⟩, rfl, rfl, na, rfl, b2, raises_own R.T.exC R.T.tyC, qq⟩
def tRaiseEr (C : Addr) (flds : List Str) (W : WX) (ta : TA) : TS := fun _ σ H => tMkEr C flds ta σ H fun cls d H' => W cls d σ H'
theorem ps_raiseEr {X : Cx} {W : WX} {x : Str} {flds : List Str} {C : Addr} {e : Expr} {es : List Expr} {ta : TA} {p pos pos2 : Pos} (hc : X.calm = true) (R : Er X.prog X.K X.mg x flds C) (hr : Room 2 X.A) (tk : L2N.Takes X W) (ha : PA X (e :: es) ta) (hfl : flds.length ≤ 1000 := by decide) (hg : Gl X x := by rfl)
    (db : (x == ("__debug__" : Str)) = false := by decide) (he : starEach (e :: es) X.env = (false, eval e X.env) :: starEach es X.env := by rfl) (hpl : (backTo pos (starEach es X.env)).any (·.1) = false := by rfl) :
    PS X (.Raise (some (.Call (.Name x p) (e :: es) [] pos)) none pos2) (tRaiseEr C flds W ta) := L2N.ps_raise hc tk (pmk_er R hr ha hfl hg db he hpl)
/-! ### the texts -/
/-- what the written part says of an error's __init__ -/
structure ErT (P : Program) (K : PySem.W.Frag) (mg : Str → Option Value) (C : Addr) (qual : Str) (st : Stmt) (f : Addr) (fd : FuncData) : Prop where
  U : SupX.SupC P K mg C
  ex : ∃ (oc ccl cl : Value) (od cdd cld an : Option Addr) (osl ccs csl : Array (Option Value)) (cda cc : Addr) (kV doc pm ct : Value) (vs0 : Array Value) (file : Str) (tf : Tok),
    fd = PySem.W.ksFn "__init__" qual (defArgs st) (defBody st) (defScope st) .none kV doc pm an (.ref cda) ct cc ∧ K.lookup f = some ⟨oc, od, .func fd, osl⟩ ∧ PySem.W.codeIn K (.ref cda) qual = true ∧
      K.lookup cda = some ⟨ccl, cdd, .fields vs0, ccs⟩ ∧ vs0[2]? = some (.str file tf) ∧ ((P.main.file : Str) == file) = true ∧ K.lookup cc = some ⟨cl, cld, .cell (some (.ref C)), csl⟩
  iC : PySem.W.findIn K (.ref C) "__init__" = some (some (.ref f))
  tI : PySem.W.typeIn K (.ref f) = some (.type "function")
theorem cat_le {x y : Str} {m n k : Nat} (hx : x.length ≤ m) (hy : y.length ≤ n) (h : m + n ≤ k) : (x ++ y).length ≤ k := by
  rw [Str.length_append]
  omega
section
variable {P : Program} {w : World} {K : PySem.W.Frag} {mg : Str → Option Value} {base : Heap}
abbrev sUnknownWord : Stmt := topE 5
abbrev sUnknownWordI : Stmt := inClass sUnknownWord 0
theorem scUnknownWordI : NdefX.NScope ["self", "word", "__class__"] ["self", "word"] ["__class__"] (defScope sUnknownWordI) := NdefX.nscope_by (by decide +kernel)
theorem ok_UnknownWordI {f C : Addr} {fd : FuncData} (F : ErT P K mg C "UnknownWord.__init__" sUnknownWordI f fd) (hno0 : PySem.W.findIn K (.ref C) "word" = some none) : FnOk P w K mg base CX0 1 f fd ["self", "word"] (spEr C ["word"]) := by
  obtain ⟨oc, ccl, cl, od, cdd, cld, an, osl, ccs, csl, cda, cc, kV, doc, pm, ct, vs0, file, tf, rfl, lk, hcd, hcode, hvs, hfile, hcell⟩ := F.ex
  refine SupX.fn_sup F.U lk hcd hcode hvs hfile hcell scUnknownWordI rfl rfl rfl (fun env => ⟨_, rfl⟩) (fun env => rfl) (fun env => rfl) (fun vs H Q E h => ?_) (fun A outer s H vs Q E hr h => ?_)
  · obtain ⟨a, xs, rfl, hl, _⟩ := h
    show xs.length + 1 = _
    rw [hl]
    rfl
  · obtain ⟨a, xs, rfl, hl, hp, ha, q⟩ := h
    match xs, hl with
    | [x0], _ =>
      refine ⟨a, _, _, rfl, ha, pa_cons (pe_joined (.cons (pe_fmt (pv 1)) (.cons pe_str .nil))) pa_nil, (pss_one (ps_ost (pv 0) (pv 1))), ?_⟩
      rcases hp x0 (by simp) with ⟨i0, rfl, h0⟩ | ⟨y0, rfl, h0⟩
      ·
        refine ⟨_, rfl, .inr ⟨i0, rfl, h0, _, rfl, ?_, ⟨_, rfl, ?_, ?_⟩⟩⟩
        · exact Nat.le_trans (cat_le (k := 1921) (show (Str.empty).length ≤ 0 from Nat.le_refl _) (int_le h0) (by decide)) (by decide)
        · exact Nat.le_trans (cat_le (k := 2121) (cat_le (k := 1921) (show (Str.empty).length ≤ 0 from Nat.le_refl _) (int_le h0) (by decide)) (show Str.length _ ≤ 200 by decide) (by decide)) (by decide)
        · exact ⟨by show 1 ≤ 1000; decide, ha, _, rfl, _, rfl, a, C, rfl, F.U.T, hno0, .inl ⟨ha, fun dx h1 h2 => q _ dx h1 h2 (fun b n1 n2 => by rw [upd_ne n1, upd_ne n2]) upd_same (by rw [upd_ne h2, upd_same]; rfl)⟩⟩
      ·
        refine ⟨_, rfl, .inl ⟨y0, rfl, str_le (Nat.le_trans h0 (by decide)), _, rfl, ?_, ⟨_, rfl, ?_, ?_⟩⟩⟩
        · exact Nat.le_trans (cat_le (k := 1921) (show (Str.empty).length ≤ 0 from Nat.le_refl _) h0 (by decide)) (by decide)
        · exact Nat.le_trans (cat_le (k := 2121) (cat_le (k := 1921) (show (Str.empty).length ≤ 0 from Nat.le_refl _) h0 (by decide)) (show Str.length _ ≤ 200 by decide) (by decide)) (by decide)
        · exact ⟨by show 1 ≤ 1000; decide, ha, _, rfl, _, rfl, a, C, rfl, F.U.T, hno0, .inl ⟨ha, fun dx h1 h2 => q _ dx h1 h2 (fun b n1 n2 => by rw [upd_ne n1, upd_ne n2]) upd_same (by rw [upd_ne h2, upd_same]; rfl)⟩⟩
end
end Toy
/-! ## try with several clauses «except C as n», the caught error's context being None -/
namespace L2N
open PySem PySem.Spec PyProof.Rows L2
abbrev Clauses := List (Value × (Addr → Value → Option Addr → TS))
/-- behind a suite the name is gone -/
def endsGone (D : Ends) (i : Nat) : Ends := { nx := fun σ H => D.nx (σ.set i none) H, bk := fun σ H => D.bk (σ.set i none) H, ct := fun σ H => D.ct (σ.set i none) H, rt := D.rt }
/-- what is wished of an error that the clauses l look at -/
def wClauses (K : PySem.W.Frag) (i : Nat) (Wout : WX) (D : Ends) : Clauses → WX
  | [] => Wout
  | p :: r => fun cls d σ H => ∃ b, PySem.W.exmOne K cls p.1 = some b ∧ (if b = true then ∀ a, H a = none → p.2 a cls d (endsGone D i) (σ.set i (some (.ref a))) H else wClauses K i Wout D r cls d σ H)
/-- the clauses of the text, each with the reading of its suite -/
inductive Reads (X : Cx) (n : Str) : List ExceptHandler → Clauses → Prop where
  | nil : Reads X n [] []
  | cons {x : Str} {c : Value} {ts : Addr → Value → Option Addr → TS} {s0 : Stmt} {ss : List Stmt} {q q' : Pos} {hs : List ExceptHandler} {l : Clauses} (named : Names X x c)
      (suite : ∀ (a : Addr) (oe : Obj) (cls : Value) (d : Option Addr) (pn : List (Addr × Obj)), Zn cls d oe → (∃ vs, oe.data = .fields vs) → PSs (X.suite a ((a, oe) :: pn)) (s0 :: ss) (ts a cls d)) (more : Reads X n hs l) :
      Reads X n (.ExceptHandler (some (.Name x q)) (some n) (s0 :: ss) q' :: hs) ((c, ts) :: l)
/-- an error on the ground of X -/
structure Down (X : Cx) (pins : List (Addr × Obj)) (σ : L2.St) (H : Hp) (cls : Value) (d : Option Addr) (a : Addr) (B : Heap) (sI s : Shared) : Prop where
  inv : Inv X pins σ H sI
  back : ∀ b o, sI.heap.get? b = some o → b ∉ frs X.stack → B.get? b = some o
  up : sI.heap.UpToSlots s.heap
  fly : HandSPX.FlyingZ B (X.env :: X.outer) a (Zn cls d) s.heap
  new : H a = none
  os : s.os = sI.os
  bare : AllBare s.gens
section
variable {X : Cx} {pins : List (Addr × Obj)} {σ : L2.St} {H : Hp} {cls : Value} {d : Option Addr} {a : Addr} {B : Heap} {sI s : Shared}
theorem Down.now (z : Down X pins σ H cls d a B sI s) : Inv X pins σ H s := z.inv.landed z.back z.fly.1 z.up z.os z.bare
/-- its object stands outside of what is tracked, outside of the frames -/
theorem Down.kept (z : Down X pins σ H cls d a B sI s) (hf : X.env.frame = some X.env.locals) : ∃ (oe : Obj) (vs : Array Value), s.heap.get? a = some oe ∧ Zn cls d oe ∧ oe.data = .fields vs ∧ Inv (X.suite a ((a, oe) :: (X.pn ++ pins))) [] σ H s := by
  have ⟨oe, vs, h1, h2, h3⟩ := z.fly.there
  have out : a ∉ frs (X.env :: X.outer) := fun m => by
    have ⟨_, o, e, no⟩ := z.fly.2.2.1.mem m
    exact no vs ((Option.some.inj (h1.symm.trans e)) ▸ h3)
  have loc : X.env.locals ∈ frs (X.env :: X.outer) := List.mem_filterMap.mpr ⟨X.env, by simp, hf⟩
  have sub : ∀ b, b ∈ X.fs → b ∈ frs (X.env :: X.outer) := fun b m => by
    have ⟨e, m1, m2⟩ := List.mem_filterMap.mp m
    exact List.mem_filterMap.mpr ⟨e, by simp [m1], m2⟩
  exact ⟨oe, vs, h1, h2, h3, z.now.suite h1 h3 z.new (fun e => out (e ▸ loc)) (fun m => out (sub _ m))⟩
/-- no clause is left: on it goes -/
theorem Down.past {Wout : WX} {D : Ends} (z : Down X pins σ H cls d a B sI s) (hs : X.stack = X.env :: X.outer) (hf : X.env.frame = some X.env.locals) (tk : Takes X Wout) (w : Wout cls d σ H) :
    wpAny (model X.prog X.w) X.A (handleBy (.ref a) X.env []) (SP X pins D) X.xe s := by
  apply wpAny_handleBy_nil
  have ⟨_, _, _, oe, vs, T, _, _, h1, _, h3, h4, _⟩ := z.fly
  unfold PySem.passOn
  apply wpAny_bind
  refine wpAny_field h1 h3 h4 ?_
  have no : ¬ ((Value.ref T == Value.none) = true) := by simp
  rw [if_neg no]
  have goes : wpAny (model X.prog X.w) X.A (setFlight (.ref a) X.env.frame) (fun _ s4 => wpAny (model X.prog X.w) X.A (throw (.ref a) : Sem Flow) (SP X pins D) X.xe s4) X.xe s := by
    rw [hf]
    refine HandSPX.setFlight_upZ z.fly fun h4 held more => wpAny_throw (tk _ _ ?_)
    refine ⟨a, B, sI, pins, σ, H, cls, d, rfl, z.inv, z.back, z.up.trans more, .inr (.inr ?_), z.new, z.os, z.bare, w⟩
    rw [hs]
    exact held
  first
    | exact wpAny_bind goes
    | exact wpAny_bind (wpAny_pure (wpAny_bind goes))
/-- a clause's class is looked up -/
theorem named_at {x : Str} {c : Value} {q : Pos} {oe : Obj} {Q E : Value → Shared → Prop} (S : Inv (X.suite a ((a, oe) :: (X.pn ++ pins))) [] σ H s) (hn : Names X x c) (k : Q c s) : wpAny (model X.prog X.w) (X.A.mark (some (.ref a))) (eval (.Name x q) X.env) Q E s := by
  rcases hn with ⟨g, db, m | ⟨m, bt, nn⟩⟩
  · exact ld_glob (X := X.suite a ((a, oe) :: (X.pn ++ pins))) S g m k db
  · exact ld_blt (X := X.suite a ((a, oe) :: (X.pn ++ pins))) S g m bt k nn db
theorem Down.handle {n : Str} {i : Nat} {Wout : WX} {D : Ends} (hs : X.stack = X.env :: X.outer) (hf : X.env.frame = some X.env.locals) (hN : X.N.Nodup) (hi : X.N[i]? = some n) (hln : X.env.kindOf n = some .local) (tk : Takes X Wout) {hds : List ExceptHandler} {l : Clauses}
    (R : Reads X n hds l) : ∀ s, Down X pins σ H cls d a B sI s → wClauses X.K i Wout D l cls d σ H → wpAny (model X.prog X.w) X.A (handleBy (.ref a) X.env hds) (SP X pins D) X.xe s := by
  induction R with
  | nil => exact fun s z w => z.past hs hf tk w
  | @cons x c ts s0 ss q q' hs' l' named suite more ih =>
    intro s z ⟨b, yes, w⟩
    have ⟨oe, vs, h1, h2, h3, S⟩ := z.kept hf
    have ty : PySem.W.Looks (model X.prog X.w) s.heap (typeOf (.ref a)) cls := fun _ _ _ _ k q => wpAny_typeOf_ref (k _ _ h1) (h2.1 ▸ q)
    have lk := PySem.W.exm_one (M := model X.prog X.w) z.now.kIn ty yes
    refine wpAny_handleBy_cons (codeAny_handlers_test (named_at S named (lk.here ?_))) (fun e => by cases e)
    cases b with
    | false => exact ih s z w
    | true =>
      refine codeAny_handlers_suite_as (HandSPX.lands_againZ z.fly fun h4 fly up => ?_)
      have z4 : Down X pins σ H cls d a B sI { s with heap := h4 } := ⟨z.inv, z.back, z.up.trans up, fly, z.new, z.os, z.bare⟩
      have ⟨oe4, vs4, _, g2, g3, S4⟩ := z4.kept hf
      refine store_ok (X := X.suite a ((a, oe4) :: (X.pn ++ pins))) (v := .ref a) S4 hN hi (.inl hln) rfl (fun s5 S5 => ?_) (.inr hln)
      have run := (suite a oe4 cls d (X.pn ++ pins) g2 ⟨_, g3⟩).run [] s5 _ H _ S5 (w a z.new)
      refine wpAny_mono run (fun f s6 out => ?_) fun _ _ no => no.elim
      have gone : ∀ {σ6 : L2.St} {H6 : Hp} {Q : Shared → Prop}, Inv (X.suite a ((a, oe4) :: (X.pn ++ pins))) [] σ6 H6 s6 → (∀ s7, Inv X pins (σ6.set i none) H6 s7 → Q s7) → wpAny (model X.prog X.w) X.A (do bindName X.env n .none; unbindBehindTheSuite X.env n q') (fun _ s7 => Q s7) X.xe s6 :=
        fun S6 k => gone_ok (S6.unsuite z.inv.ok) hN hi hln k
      match f, out with
      | .next, ⟨_, _, S6, k⟩ => exact gone S6 fun s7 J => ⟨_, _, J, k⟩
      | .brk, ⟨_, _, S6, k⟩ => exact gone S6 fun s7 J => ⟨_, _, J, k⟩
      | .cont, ⟨_, _, S6, k⟩ => exact gone S6 fun s7 J => ⟨_, _, J, k⟩
      | .ret _, ⟨_, _, _, S6, r, k⟩ => exact gone S6 fun s7 J => ⟨_, _, _, J, r, k⟩
/-- the statement -/
theorem ps_try_clauses {n : Str} {i : Nat} {Wout : WX} {body : List Stmt} {h0 : ExceptHandler} {hds : List ExceptHandler} {l : Clauses} {pos : Pos} {tb : WX → TS} (hs : X.stack = X.env :: X.outer) (hf : X.env.frame = some X.env.locals) (hN : X.N.Nodup) (hi : X.N[i]? = some n) (hln : X.env.kindOf n = some .local)
    (tk : Takes X Wout) (hb : ∀ (W : WX) (pn : List (Addr × Obj)) (xe : Value → Shared → Prop), Takes (X.tr pn xe) W → PassesOwn (model X.prog X.w) X.A X.env xe → PSs (X.tr pn xe) body (tb W)) (R : Reads X n (h0 :: hds) l) :
    PS X (.Try body (h0 :: hds) [] [] pos) (fun D σ H => tb (wClauses X.K i Wout D l) D σ H) := by
  constructor
  intro pins s σ H D I h
  have fr : X.A.frames = some (X.env :: X.outer) := I.ok.frames.trans (by rw [hs])
  apply wpAny_Try_except
  have run := (hb (wClauses X.K i Wout D l) (X.pn ++ pins) (fun e s1 => wpAny (model X.prog X.w) X.A (noteFrame e X.env) (fun _ s2 => wpAny (model X.prog X.w) X.A (setFlight e none) (fun _ s3 => wpAny (model X.prog X.w) X.A (handleBy e X.env (h0 :: hds)) (SP X pins D) X.xe s3) X.xe s2) X.xe s1) (fun u s' c => by
    have ⟨a, B, sI, _, σ', H', cls, d, eu, J, nb, up, sky, na, os, ag, w⟩ := c
    subst eu
    rw [show (X.tr (X.pn ++ pins) _).stack = X.stack from rfl, hs] at sky
    refine Sky.land Zn.steady fr hf sky fun h3 fl more => ?_
    exact Down.handle hs hf hN hi hln tk R _ ⟨J.ofTry I.ok, nb, up.trans more, fl, na, os, ag⟩ w) PassesOwn.looking).run [] s σ H D (I.toTry _) h
  refine wpAny_mono run (fun f s1 out => ?_) fun _ _ z => z
  match f, out with
  | .next, ⟨_, _, J, k⟩ => exact wpAny_execs_nil ⟨_, _, J.ofTry I.ok, k⟩
  | .brk, ⟨_, _, J, k⟩ => exact ⟨_, _, J.ofTry I.ok, k⟩
  | .cont, ⟨_, _, J, k⟩ => exact ⟨_, _, J.ofTry I.ok, k⟩
  | .ret _, ⟨_, _, _, J, r, k⟩ => exact ⟨_, _, _, J.ofTry I.ok, r, k⟩
end
end L2N
/-! ## a list walked by a comprehension while an error is handled -/
namespace HotX2
open PySem PySem.Spec PyProof.Rows HotX
section
variable {prog : Program} {w : World} {A : Around} {E : Value → Shared → Prop} {s : Shared}
/-- the iterator at it is at its end: StopIteration is made (its context the handled error), and met -/
theorem list_ends {it l x1 : Addr} {i : Nat} {vals : Array Value} {Q : Option Value → Shared → Prop} (hot : HotAt A x1 s.heap) (ne : x1 ≠ it) (isIt : s.heap.IsListIter it l i) (isL : s.heap.IsList l vals) (past : vals[i]? = none)
    (k : ∀ h1, Heap.ExtBut it s.heap h1 → Q none { s with heap := h1 }) : wpAny (model prog w) A (pyNext (.ref it)) Q E s := by
  have ⟨hh, o1, ws, g1, e1, n1⟩ := hot
  have ty := isIt.typeIs
  have ⟨oi, gi, ci, di⟩ := isIt
  have ⟨ol, gl, _, nl, dl⟩ := isL
  have same1 : ∀ f, (s.heap.update it f).get? x1 = some o1 := fun f => (Heap.get?_update_ne _ _ _ _ ne).trans g1
  have sameB : ∀ f b o, b ≠ it → s.heap.get? b = some o → (s.heap.update it f).get? b = some o := fun f b o nb g => (Heap.get?_update_ne _ _ _ _ nb).trans g
  have noN : ¬ ((Value.ref l == Value.none) = true) := Bool.false_ne_true
  unfold pyNext
  apply wpAny_bind; apply wpAny_attempt
  refine wpAny_callSpecial?_slot (name := Str.ofString "__next__") ty slot_listiter_next (wpAny_call_entry slot_listiter_next ty entry_listiter_next ?_ (args_listiter_next _))
  change wpAny _ _ (field (.ref it) 0 >>= _) _ _ s
  refine wpAny_bind (wpAny_field (x := .ref l) gi di rfl ?_)
  change wpAny _ _ (ite ((Value.ref l == Value.none) = true) _ _) _ _ s
  rw [if_neg noN]
  change wpAny _ _ (field (.ref it) 1 >>= _) _ _ s
  refine wpAny_bind (wpAny_field (x := .int i 0) gi di rfl ?_)
  change wpAny _ _ (seqItems? (.ref l) >>= _) _ _ s
  refine wpAny_bind (wpAny_seqItems gl dl ?_)
  simp only [Int.toNat_natCast, past]
  refine wpAny_bind (wpAny_rule (wpAny_bind (wpAny_setField gi di (by simp) ?_)))
  change wpAny _ _ (newExc (.type "StopIteration") [] >>= _) _ _ _
  apply wpAny_bind
  simp only [newExc, newTuple]
  refine wpAny_bind (wpAny_newObj_type (wpAny_bind (m := firstArgMember _ _) (wpAny_of_eq (a := Value.none) (by first | rfl | (simp only [firstArgMember]; rfl)) (wpAny_newObj_type ?_ (by size_fits)))) (by size_fits))
  have up2 : ∀ {h1 : Heap} {b : Addr} {o x y : Obj}, h1.get? b = some o → ((h1.push x).push y).get? b = some o := fun e => Heap.get?_push_of_some _ (Heap.get?_push_of_some _ e)
  have lt2 : ∀ {h1 : Heap} {b : Addr} {o x : Obj}, h1.get? b = some o → b < (h1.push x).objs.size := fun e => Heap.lt_size (Heap.get?_push_of_some _ e)
  refine raiseNew_hot (x1 := x1) ⟨hh, o1, ws, up2 (same1 _), e1, n1⟩ (Nat.ne_of_lt (lt2 (same1 _))) (Heap.get?_push_size _ rfl) rfl (by first | (simp; done) | (simp; omega) | (simp only [Array.size_append]; simp; omega)) (wpAny_bind ?_)
  refine wpAny_isInstance (T := "StopIteration") (b := true) ⟨_, Heap.get?_update_self _ (Heap.get?_push_size _ rfl) rfl, rfl⟩ isSubtype_stop (wpAny_pure (k _ fun b o nb g => ?_))
  exact (Heap.get?_update_other _ _ (Nat.ne_of_gt (lt2 (sameB _ b o nb g)))).trans (up2 (sameB _ b o nb g))
end
end HotX2

namespace L2
open PySem PySem.Spec PyProof.Rows
section
variable {X : Cx} {pins : List (Addr × Obj)} {σ : St} {H : Hp} {s : Shared}
theorem fpOk_turned (I : Inv X pins σ H s) {it : Addr} (f : FpOk X pins H it) {h1 : Heap} (k : ∀ b o, b ≠ it → s.heap.get? b = some o → h1.get? b = some o) : Inv X pins σ H { s with heap := h1 } :=
  I.turned (t' := s.toks) (fun b o nb g => k b o nb g) f.1 f.2.1 f.2.2.2.1 f.2.2.2.2.1 f.2.2.2.2.2
theorem pe_lcH {elt tg iter : Expr} {ifs : List Expr} {scope : Scope} {own : List (Str × Nat)} {pos : Pos} {tl : TE} {g : TG} {tt : TT} {te : TE} (hot : L2H.HotC X) (hN : X.N.Nodup) (il : PE X iter tl) (ok : BlkOk X.N X.env.scope scope own)
    (hg : ∀ s H C cl fp, PG (X.blk s H scope (compEnvC scope cl C X.env) fp) tg g) (ht : ∀ s H C cl fp, PTs (X.blk s H scope (compEnvC scope cl C X.env) fp) ifs tt)
    (he : ∀ s H C cl fp, PE (X.blk s H scope (compEnvC scope cl C X.env) fp) elt te) (hs : ∀ x, foldedSetIterable iter X.env x = pure x := by intro _; rfl) :
    PE X (.ListComp elt [⟨tg, iter, ifs, 0⟩] scope pos) (tLc (iList X.K tl) g tt te (own.map (·.2))) := by
  constructor
  intro pins s σ H Q I h
  have ⟨p, ⟨hh, ws, pd, pc⟩, pm⟩ := hot
  have free : ∀ y ∈ scope.names, y.2 = .free → ∃ c, X.env.cells.lookup y.1 = some c := fun y m e => (ok.free y m e).elim (fun k => I.ok.has _ (.inl k)) fun k => I.ok.has _ (.inr k)
  rw [eval_ListComp]
  refine wpAny_comprehension_free rfl hs (closure_ok free) ok.kind (fun y m e => (ok.uniq y m).trans (e ▸ rfl)) (thn (il.run pins s σ H _ I h) fun xv s1 hx => ?_)
  have ⟨x, H1, I1, r1, a, ex, ⟨xs, hq⟩, q⟩ := hx
  subst ex
  cases r1
  have ⟨its, _, pl, _⟩ := I1.list hq
  refine wpAny_pyIter_list pl.isList (wpAny_newObj_type (newEnv_comp ?_) (show 0 ≤ sizeLine from Nat.zero_le _))
  -- the iterator, the new list
  have I2 := I1.kept (h' := s1.heap.push { cls := .type "list_iterator", data := .fields #[.ref a, .int 0 0] }) (t' := s1.toks) fun b o e => Heap.get?_push_of_some _ e
  have it0 : (s1.heap.push { cls := .type "list_iterator", data := .fields #[.ref a, .int 0 0] }).IsListIter s1.heap.objs.size a 0 := ⟨_, Heap.get?_push_size _ rfl, rfl, rfl⟩
  have new1 : H1 s1.heap.objs.size = none := I1.hok.fresh (Nat.le_refl _)
  generalize hk2 : s1.heap.push { cls := .type "list_iterator", data := .fields #[.ref a, .int 0 0] } = k2 at I2 it0 ⊢
  have lt2 : s1.heap.objs.size < k2.objs.size := by rw [← hk2, Heap.size_push]; exact Nat.lt_succ_self _
  have fp2 : FpOk X pins H1 s1.heap.objs.size := I1.fpOk (Nat.le_refl _) new1
  have I3 : Inv X pins σ (upd H1 k2.objs.size (.lst [])) { s1 with heap := k2.push { cls := .type "list", data := .seq ([] : List Value).toArray } } :=
    I2.laid (t' := s1.toks) (fun b o e => Heap.get?_push_of_some _ e) (Nat.le_refl _) ⟨Nat.zero_le _, [], 0, .nil, Heap.get?_push_size _ rfl⟩
  have ⟨W, ⟨m0, w0⟩, turn⟩ := q k2.objs.size (I2.hok.fresh (Nat.le_refl _))
  have fp3 : FpOk X pins (upd H1 k2.objs.size (.lst [])) s1.heap.objs.size := ⟨(upd_ne (Nat.ne_of_lt lt2)).trans fp2.1, fp2.2⟩
  have it3 : (k2.push { cls := .type "list", data := .seq ([] : List Value).toArray }).IsListIter s1.heap.objs.size a 0 := it0.at fun o e => Heap.get?_push_of_some _ e
  generalize hH3 : upd H1 k2.objs.size (.lst []) = H3 at I3 w0 fp3
  generalize hs3 : ({ s1 with heap := k2.push { cls := .type "list", data := .seq ([] : List Value).toArray } } : Shared) = s3 at I3
  generalize hit : s1.heap.objs.size = it at *
  generalize hD : k2.objs.size = D at *
  have e3 : s3.heap = k2.push { cls := .type "list", data := .seq ([] : List Value).toArray } := by rw [← hs3]
  have it3' : s3.heap.IsListIter it a 0 := by rw [e3]; exact it3
  have lt3 : it < s3.heap.objs.size := by rw [e3, Heap.size_push, hD]; exact Nat.lt_succ_of_lt lt2
  have I4 := block_start I3 ok hN (fp := [it]) fun b m => by
    rw [List.mem_singleton] at m
    subst m
    exact ⟨fp3, lt3⟩
  have P3 := I3.pin p (List.mem_append_left _ pm)
  have offst : p.1 ∉ frs X.stack := fun m => (List.mem_cons.mp (I3.stkSub p.1 m)).elim P3.2.2.1 P3.2.2.2.1
  have nep : p.1 ≠ it := fp3.2.2.2.2.2 p (List.mem_append_left _ pm)
  have pg := hg s3 H3 s3.heap.objs.size (cellsFrom (s3.heap.objs.size + 1) scope.names (cloFrom X.env.cells scope.names [])) [it]
  have pt := ht s3 H3 s3.heap.objs.size (cellsFrom (s3.heap.objs.size + 1) scope.names (cloFrom X.env.cells scope.names [])) [it]
  have pe := he s3 H3 s3.heap.objs.size (cellsFrom (s3.heap.objs.size + 1) scope.names (cloFrom X.env.cells scope.names [])) [it]
  change codeAny _ _ (.compStart (.ListComp elt [⟨tg, iter, ifs, 0⟩] scope pos) 0 (.ref it) (.ref D) (compEnvC scope (cellsFrom (s3.heap.objs.size + 1) scope.names (cloFrom X.env.cells scope.names [])) s3.heap.objs.size X.env)) (compPost (model X.prog X.w) X.A X.xe none _ (.ref D) s3.heap.objs.size) { s3 with heap := pushCells (s3.heap.push { cls := .type "dict", data := .dict #[] }) scope.names }
  generalize hce : compEnvC scope (cellsFrom (s3.heap.objs.size + 1) scope.names (cloFrom X.env.cells scope.names [])) s3.heap.objs.size X.env = ce at I4 pg pt pe ⊢
  have cL : ce.locals = s3.heap.objs.size := by rw [← hce]; rfl
  have it4 : (pushCells (s3.heap.push { cls := .type "dict", data := .dict #[] }) scope.names).IsListIter it a 0 := it3'.at fun o e => pushCells_keeps _ _ _ _ (Heap.get?_push_of_some _ e)
  have fpB : ∀ {σ' : L2.St} {H' : Hp} {s' : Shared}, Inv (X.blk s3 H3 scope ce [it]) [] σ' H' s' → H' it = none → FpOk (X.blk s3 H3 scope ce [it]) [] H' it := fun J n =>
    ⟨n, (J.ok.exf it (by simp)).1, J.ok.exfs it (by simp), .inl (by simp), fun x c e => (J.ok.exf it (by simp)).2 x c e, fun r m => absurd m (by simp)⟩
  have loop : codeAny (model X.prog X.w) X.A (.compLoop (.ListComp elt [⟨tg, iter, ifs, 0⟩] scope pos) 0 (.ref it) (.ref D) ce) (compPost (model X.prog X.w) X.A X.xe none (EP X pins σ Q) (.ref D) s3.heap.objs.size) { s3 with heap := pushCells (s3.heap.push { cls := .type "dict", data := .dict #[] }) scope.names } := ?_
  · exact codeAny_compStart_list loop (wpAny_pyIter_listiter it4 loop)
  refine compLoop_any (fun n s' => ∃ i H', Inv (X.blk s3 H3 scope ce [it]) [] (wipe σ (own.map (·.2))) H' s' ∧ s'.heap.IsListIter it a i ∧ H' it = none ∧ W i n H') ?_ m0 ⟨0, H3, I4, it4, fp3.1, w0⟩
  rintro n s5 ⟨i, H5, I5, st5, n5, w5⟩
  rcases turn i n H5 w5 with ⟨⟨xs5, hq5, past⟩, qq⟩ | ⟨⟨xs5, y, hq5, hy⟩, Nx, hNx, step⟩
  · have hp5 : s5.heap.get? p.1 = some p.2 := I5.base.keep p.1 p.2 P3.1 P3.2.1 offst (by simp [nep])
    have ⟨its5, rv5, pl5, _⟩ := I5.list hq5
    refine HotX2.list_ends ⟨hh, p.2, ws, hp5, pd, pc⟩ nep st5 pl5.isList (by have := rv5.length; simp; omega) fun h6 ext => ?_
    have I6 := fpOk_turned I5 (fpB I5 n5) ext
    have I7 : Inv X pins σ H5 { s5 with heap := h6 } := I3.call' (ch := [it]) I6.os I6.base I6.hok I6.bare fun b m => by
      rw [List.mem_singleton] at m
      subst m
      exact ⟨fp3.2.2.2.1, fp3.2.1, fp3.2.2.2.2.1, fp3.2.2.2.2.2⟩
    have nC : H5 s3.heap.objs.size = none := cL ▸ I6.free
    have ⟨m, hn, _⟩ := I6.loc
    have f := I3.fpOk (Nat.le_refl _) nC
    exact ⟨m, cL ▸ hn, fun h8 sb => ⟨.ref D, H5, fpOk_turned I7 f fun b o nb e => (sb.2 b nb).trans e, rfl, qq⟩⟩
  · have ⟨its5, rv5, pl5, _⟩ := I5.list hq5
    have ⟨u, hu, ru⟩ := rv5.get hy
    refine wpAny_pyNext_list_item st5 pl5.isList (x := u) (by simpa using hu) fun h6 st6 sb => ?_
    have I6 := fpOk_turned I5 (fpB I5 n5) fun b o nb e => (sb.2 b nb).trans e
    have ⟨oi, gi, ci, di⟩ := id st6
    refine go_of (s := { s5 with heap := h6 }) gi ci di (by decide) ?_
    have I7 : Inv (X.blk s3 H3 scope ce [it]) [(it, oi)] (wipe σ (own.map (·.2))) H5 { s5 with heap := h6 } := I6.pins_of fun r m => by
      rw [List.mem_singleton] at m
      subst m
      exact ⟨gi, n5, (I6.ok.exf it (by simp)).1, I6.ok.exfs it (by simp), fun v z => by rw [di] at z; cases z⟩
    refine thnF (pg.run _ _ _ H5 y u _ I7 ru (step y H5 ⟨rfl, fun ys hys => (I5.list_inj hys hq5) ▸ hy⟩)) fun _ s8 ⟨σ8, H8, I8, hw8, q8⟩ => ?_
    refine thnF (pt.run _ s8 σ8 H8 _ I8 q8) fun b s9 ⟨H9, I9, q9⟩ => ?_
    have done : ∀ {s' : Shared} {H' : Hp}, Inv (X.blk s3 H3 scope ce [it]) [(it, oi)] σ8 H' s' → Nx H' → ∃ m, m < n ∧ ∃ i H', Inv (X.blk s3 H3 scope ce [it]) [] (wipe σ (own.map (·.2))) H' s' ∧ s'.heap.IsListIter it a i ∧ H' it = none ∧ W i m H' := fun {s' H'} J nx => by
      have ⟨m', lt, w'⟩ := hNx H' nx
      have z := J.pin (it, oi) (by simp)
      refine ⟨m', lt, i + 1, H', (J.pins_of (pins' := []) fun r m => absurd m (by simp)).weak (by rw [← hw8, wipe_length]) (fun j v e => ?_), st6.at (fun o e => ?_), z.2.1, w'⟩
      · rw [← hw8] at e
        exact (wipe_some e).1
      · have e' : h6.get? it = some o := e
        rw [gi] at e'
        exact e' ▸ z.1
    cases b with
    | false => exact done I9 q9
    | true => exact thnF (pe.run _ s9 σ8 H9 _ I9 q9) fun z s10 ⟨yv, H10, I10, r10, acc, hD10, hz10, nx⟩ => app_ok (X := X.blk s3 H3 scope ce [it]) I10 hD10 hz10 r10 fun s11 I11 => done I11 nx
end
end L2
namespace L2
open PySem PySem.Spec PyProof.Rows
/-! ## a def that is asked about the error p, which is being handled -/
structure FnE (P : Program) (w : World) (K : PySem.W.Frag) (mg : Str → Option Value) (base : Heap) (k : Nat) (f : Addr) (fd : FuncData) (ps : List Str) (sp : Addr × Obj → Sp) : Prop where
  len : ∀ p vs H Q E, sp p vs H Q E → vs.length = ps.length
  run : ∀ (p : Addr × Obj) (A : Around) (outer : List Env) (z : Shared) (H : Hp) (args : Args) (us : List Value) (vs : List V) (Q : VK), L2H.RoomH k A → L2H.Hot1 A p → L2H.PinOk outer H z p → Env0 P w K mg base A outer z H → BindsTo z fd args (ps.zip us) → Vals vs us → sp p vs H Q E0 →
    codeAny (model P w) A (.call (.ref f) args) (CR CX0 outer P w H z Q E0) z
theorem fn_ofE {P : Program} {w : World} {K : PySem.W.Frag} {mg : Str → Option Value} {base : Heap} {k : Nat} {f : Addr} {nm qual : Str} {pars : Arguments} {body : List Stmt} {sc : Scope} {dV kV doc pm cdv ct oc : Value} {an od : Option Addr}
    {osl : Array (Option Value)} {N ps : List Str} {sp : Addr × Obj → Sp} (lk : K.lookup f = some ⟨oc, od, .func (PySem.W.fnOf nm qual pars body sc dV kV doc pm an cdv ct), osl⟩) (hcd : PySem.W.codeIn K cdv qual = true) (Sc : FnScope N ps sc)
    (len : ∀ p vs H Q E, sp p vs H Q E → vs.length = ps.length)
    (hbody : ∀ (p : Addr × Obj) (A : Around) (outer : List Env) (z : Shared) (H : Hp) (vs : List V) (Q : VK), L2H.Hot1 A p → L2H.RoomH k (A.deeper (envOfC qual sc z.heap.objs.size f cdv)) → sp p vs H Q E0 →
      ∃ t, PSs (L2H.cxH CX0 P w K mg base N qual sc f cdv A outer z H E0 p) body t ∧ t { nx := fun _ H' => Q .non H', rt := Q } (L2.start N vs) H) :
    FnE P w K mg base (k + 1) f (PySem.W.fnOf nm qual pars body sc dV kV doc pm an cdv ct) ps sp := by
  refine ⟨len, fun p A outer z H args us vs Q room hot pin e0 hb r want => ?_⟩
  have n := len _ _ _ _ _ want
  have up : ∀ b o, base.get? b = some o → z.heap.get? b = some o := fun b o e => (e0.bs b o e).1
  have KZ : K.In z.heap := e0.mod.kin.keeps up
  refine codeAny_call_function room.depth (KZ _ _ lk) rfl Sc.co Sc.gen rfl (PySem.W.codeRec_of KZ hcd) (hb _ _ _ _ ?_)
  refine wpAny_newFunctionEnv_cells Sc.kind (fun q m => ?_) fun env he z1 x => ?_
  · rcases Sc.par q.1 (List.of_mem_zip m).1 with c | c
    · exact .inl c
    · exact .inr ⟨c, PySem.W.cellsFrom_some _ _ _ (.inl c)⟩
  subst he
  refine ⟨(e0.mod.nolimit.keeps up).keeps x.toInCall.keep, codeAny_func ?_⟩
  have ⟨t, ht, hq⟩ := hbody p A outer z H vs Q hot (room.deeper _) want
  have I := L2H.inv_startH (CX := CX0) (P := P) (w := w) (qual := qual) (f := f) (cd := cdv) (E := E0) Sc pin e0 n r x
  refine wpAny_mono (ht.run [] z1 (L2.start N vs) H _ I hq) (fun fl z2 out => ?_) fun _ _ no => no
  match fl, out with
  | .ret _, ⟨v, _, H1, J, rv, q⟩ => exact ⟨v, H1, J.os, J.bare, J.base, J.hok, rv, q⟩
  | .next, ⟨_, H1, J, q⟩ => exact ⟨V.non, H1, J.os, J.bare, J.base, J.hok, rfl, q⟩
  | .brk, ⟨_, _, _, q⟩ => exact q.elim
  | .cont, ⟨_, _, _, q⟩ => exact q.elim
def tCallE (p : Addr × Obj) (sp : Addr × Obj → Sp) (t : TA) : TE := fun σ H Q => t σ H fun vs H1 => sp p vs H1 Q E0
section
variable {X : Cx} {k : Nat} {f : Addr} {fd : FuncData} {ps : List Str} {sp : Addr × Obj → Sp} {x : Str} {q pos : Pos} {e : Expr} {es : List Expr} {t : TA} {p : Addr × Obj}
theorem pe_callE (F : FnE X.prog X.w X.K X.mg X.base k f fd ps sp) (room : L2H.RoomH k X.A) (hot : L2H.Hot1 X.A p) (hp : p ∈ X.pn) (hg : Gl X x) (hm : X.mg x = some (.ref f)) (hk : PySem.W.keepIn X.K (.ref f) = true) (hb : Binds X.K fd ps [])
    (ha : PA X (e :: es) t) (db : (x == ("__debug__" : Str)) = false := by decide) (he : starEach (e :: es) X.env = (false, eval e X.env) :: starEach es X.env := by rfl) (hpl : (backTo pos (starEach es X.env)).any (·.1) = false := by rfl) :
    PE X (.Call (.Name x q) (e :: es) [] pos) (tCallE p sp t) := by
  constructor
  intro pins z σ H Q I h
  refine wpAny_Call_Name_kw (ld_glob I hg hm ?_ db)
  refine PySem.W.callWith_K (h₀ := X.base) I.ok.mod.kin hk (thn (ha.run pos pins z σ H _ I h) fun us z1 out => ?_) he hpl
  have ⟨vs, H1, I1, r, want⟩ := out
  refine ⟨I1.kIn, ?_⟩
  have b := hb z1 us I1.kIn (by rw [List.append_nil, ← r.length]; exact F.len _ _ _ _ _ want)
  rw [List.append_nil] at b
  have g := I1.pin p (List.mem_append_left _ hp)
  have pin : L2H.PinOk X.stack H1 z1 p := ⟨g.1, g.2.1, fun m => (List.mem_cons.mp (I1.stkSub p.1 m)).elim g.2.2.1 g.2.2.2.1, g.2.2.2.2⟩
  refine wpAny_call (codeAny_mono (F.run p X.A X.stack z1 H1 ⟨us, []⟩ us vs Q room hot pin I1.env0 b r want) fun r z2 out => ?_)
  match r, out with
  | .ok (.ret _), c => exact I1.after c
/-- isinstance(e, c), e the error p, which has a dict -/
def rIsEx (K : PySem.W.Frag) (p : Addr × Obj) : List V → Hp → VK → Prop := fun xs H Q => ∃ (D : Addr) (c : V) (cv : Value) (b : Bool) (dd : Addr) (fs : List (Str × V)), xs = [.ref p.1, c] ∧ (∀ u, RelV c u → u = cv) ∧ ExcC K D ∧ Zc (.ref D) (some dd) p.2 ∧ (∃ vs, p.2.data = .fields vs) ∧ H dd = some (.xd fs) ∧
  PySem.W.kitOne K (.ref D) cv = some b ∧ Q (.bl b) H
theorem call_isEx (hp : p ∈ X.pn) : CallR X (.builtin "isinstance") (rIsEx X.K p) := by
  intro pins z σ H xs us Q I r h
  have ⟨D, c, cv, b, dd, fs, ex, hcv, C, hz, ⟨vs, hv⟩, hdd, e, q⟩ := h
  subst ex
  match us, r with
  | [_, _], .cons rx (.cons rt .nil) =>
    cases rx
    cases hcv _ rt
    have ⟨mA, hns, _⟩ : ObjOk X.prog X.w H z.heap dd (.xd fs) := I.hok dd _ hdd
    have ⟨od, ho, _⟩ := lookIn_ns hns
    have here := (I.pin p (List.mem_append_left _ hp)).1
    have J : PySem.W.InstAt z.heap p.1 p.2 D (some od) := ⟨here, hz.1, by unfold PySem.W.notCls; rw [hv] <;> rfl, by rw [hz.2]; exact ho⟩
    have ⟨cdD, hcD, _⟩ := PySem.W.any_some C.hd
    refine PySem.W.kia_one (PySem.W.kitx_exc (gt := none) (by rw [hcD]; rfl) C.hg C.hk C.hs C.ha C.hn C.ht C.hm) I.kIn J e (fun z => nomatch z) fun tk => ?_
    exact ⟨.bl b, H, I.kept (t' := tk) fun _ _ z => z, rfl, q⟩
end
/-! ## defs that may raise -/
/-- an error of the class C with the attributes fs -/
def Boom (C : Addr) (fs : List (Str × V)) (H : Hp) (E : XK) : Prop := ∀ H' d, Same H H' → H d = none → H' d = some (.xd fs) → E (.ref C) (some d) H'
section
variable {P : Program} {w : World} {K : PySem.W.Frag} {mg : Str → Option Value} {base : Heap} {k : Nat} {f : Addr} {fd : FuncData} {ps : List Str} {sp sp' : Sp} {CX : CXT}
/-- where nothing is let out, any way of letting out will do -/
theorem FnOk.free (F : FnOk P w K mg base CX0 k f fd ps sp) : FnOk P w K mg base CX k f fd ps sp := by
  refine ⟨F.len, fun A outer s H args us vs Q E hr e0 hb hv h => codeAny_mono (F.run A outer s H args us vs Q E hr e0 hb hv h) fun r s' out => ?_⟩
  match r, out with
  | .ok (.ret _), c => exact c
theorem FnOk.or (F : FnOk P w K mg base CX k f fd ps sp) (G : FnOk P w K mg base CX k f fd ps sp') : FnOk P w K mg base CX k f fd ps (fun vs H Q E => sp vs H Q E ∨ sp' vs H Q E) :=
  ⟨fun vs H Q E h => h.elim (F.len vs H Q E) (G.len vs H Q E), fun A outer s H args us vs Q E hr e0 hb hv h => h.elim (F.run A outer s H args us vs Q E hr e0 hb hv) (G.run A outer s H args us vs Q E hr e0 hb hv)⟩
/-- the rule of a def that may raise -/
theorem Fun.okN {x qual : Str} {st : Stmt} {N : List Str} (F : Fun K x qual st f fd) (S : FnScope N ps (defScope st)) (len : ∀ vs H Q E, sp vs H Q E → vs.length = ps.length)
    (body : ∀ (cdv : Value) (A : Around) (outer : List Env) (s : Shared) (H : Hp) (vs : List V) (Q : VK) (E : XK), Room k (A.deeper (envOfC qual (defScope st) s.heap.objs.size f cdv)) → sp vs H Q E →
      ∃ t, PSs (cxOf (L2N.CX P w) P w K mg base N qual (defScope st) f cdv A outer s H E) (defBody st) t ∧ t { nx := fun _ H' => Q .non H', rt := Q } (L2.start N vs) H) : FnOk P w K mg base (L2N.CX P w) (k + 1) f fd ps sp := by
  have ⟨oc, od, kV, doc, pm, an, cdv, ct, osl, e, lk, hcd⟩ := F.ex
  subst e
  exact fn_of lk hcd S len fun A outer s H vs Q E hr h => body cdv A outer s H vs Q E hr h
end
section
variable {X : Cx} {W : WX}
theorem takesF : L2N.Takes X (fun _ _ _ _ => False) := fun _ _ x => by
  have ⟨_, _, _, _, _, _, _, _, _, _, _, _, _, _, _, _, z⟩ := x
  exact z.elim
/-- in a try's body: what the clauses wish for, at any slots -/
def eAll (n : Nat) (W : WX) : XK := fun cls d H => ∀ σ : L2.St, σ.length = n → W cls d σ H
theorem passTry (n : Nat) (tk : L2N.Takes X W) (hn : X.N.length = n := by rfl) : Passes (L2N.CX X.prog X.w) X (eAll n W) := fun _ σ _ _ e s' I c => tk e s' (L2N.XE.of_call I (fun _ _ _ h => h σ (I.len.trans hn)) c)
/-- in a def that may raise -/
theorem passUp {E : XK} (tk : L2N.Takes X (fun cls d _ H => E cls d H)) : Passes (L2N.CX X.prog X.w) X E := L2N.passes_call tk fun _ _ _ _ h => h
theorem slot_set {σ : L2.St} {i n : Nat} {v : Option V} (h : σ.length = n) (hi : i < n) : (σ.set i v)[i]? = some v := by
  rw [List.getElem?_set_self (by omega)]
end
end L2
namespace L2
open PySem PySem.Spec PyProof.Rows
/-! ## own operators of an instance with a dict -/
section
variable {X : Cx} {CX : CXT} {k : Nat} {C f : Addr} {fd : FuncData} {ps : List Str} {sp : Sp} {E : XK} {a b : Expr} {ta tb : TE} {pos : Pos}
end
end L2
namespace PySem
open AutoSeq1 (wpAny_loadPart')
theorem meets_enumerate_new1 {v : Value} {o : Obj} {H : Heap → Prop} (B : Begins v o H) :
    Meets (Builtin.«enumerate.__new__» ⟨[.type "enumerate", v], []⟩) (fun _ R s => H s.heap ∧
      R (.ok (.ret (.ref (s.heap.push o).objs.size))) { s with heap := (s.heap.push o).push { cls := .type "enumerate", data := .fields #[.none, .bool false, .ref s.heap.objs.size, rawInt 0, .none, .none] } }) :=
  .of_wp fun prog w A R s h => by
    obtain ⟨hp, g, d, tk, os⟩ := s; obtain ⟨h1, h⟩ := h
    have hsub := sub_enumerate
    have q1 : ∀ {A' : Around} {E : Value → Shared → Prop} {Q : Value → Shared → Prop}, Q (.ref hp.objs.size) ⟨hp.push o, g, d, tk, os⟩ → wpAny (model prog w) A' (pyIter v) Q E ⟨hp, g, d, tk, os⟩ :=
      fun q => B.iter prog w _ _ ⟨hp, g, d, tk, os⟩ _ h1 q
    wp_walk using q1
    refine wpAny_stack_any fun st => wpAny_pure ?_
    split
    · rename_i c _ _ _ _ _
      cases (c == Value.type "enumerate")
      · wp_walk using q1
        exact ⟨_, rfl, h⟩
      · wp_walk using q1
        exact ⟨_, rfl, h⟩
    · wp_walk using q1
      exact ⟨_, rfl, h⟩
section
variable {prog : Program} {w : World} {A : Around} {E : Value → Shared → Prop} {s : Shared}
theorem enum_begins1 {v : Value} {o : Obj} {H : Heap → Prop} {Q : Value → Shared → Prop} (B : Begins v o H) (h1 : H s.heap)
    (h : ∀ h', IsEnum h' (s.heap.objs.size + 1) s.heap.objs.size 0 .none → h'.get? s.heap.objs.size = some o → h'.objs.size = s.heap.objs.size + 2 →
      (∀ b o, s.heap.get? b = some o → h'.get? b = some o) → Q (.ref (s.heap.objs.size + 1)) { s with heap := h' }) :
    wpAny (model prog w) A (call (.type "enumerate") [v]) Q E s := by
  refine callType_new F.called_enumerate (by decide) (F.typeCall_enumerate_1 _) (F.newCall_enumerate_1 _) (fun obj => F.args_object_init_2 obj _) F.entry_enumerate_new
    (meets_enumerate_new1 B) ⟨h1, ?_⟩
  have hz : (s.heap.push o).objs.size = s.heap.objs.size + 1 := Heap.size_push ..
  show _ ∧ _
  rw [hz]
  have he : IsEnum ((s.heap.push o).push { cls := .type "enumerate", data := .fields #[.none, .bool false, .ref s.heap.objs.size, rawInt 0, .none, .none] }) (s.heap.objs.size + 1) s.heap.objs.size 0 .none := by
    have := Heap.get?_push_size (s.heap.push o) (o := { cls := .type "enumerate", data := .fields #[.none, .bool false, .ref s.heap.objs.size, rawInt 0, .none, .none] }) rfl
    rw [hz] at this; exact this
  refine ⟨⟨_, he, rfl⟩, h _ he (Heap.get?_push_of_some _ (Heap.get?_push_size _ B.free)) (by rw [Heap.size_push, hz]) fun b o x => Heap.get?_push_of_some _ (Heap.get?_push_of_some _ x)⟩
end
end PySem
namespace L2
open PySem PySem.Spec PyProof.Rows
/-- the tuple at a, each item in a new pair -/
def Itet (K : PySem.W.Frag) (a : Addr) : It :=
  ⟨fun i H => ∃ (xs : List V) (x : V), SqT K H a xs ∧ xs[i]? = some x, fun i H v H' => ∃ T x, v = .ref T ∧ H T = none ∧ H' = upd H T (.tup [.int (i : Nat), x]) ∧ ∀ xs, SqT K H a xs → xs[i]? = some x, fun i H => ∃ xs : List V, SqT K H a xs ∧ xs.length = i⟩
theorem tup_ne_iter {h : Heap} {a it : Addr} {items : Array Value} {i : Nat} (p : h.IsTuple a items) (q : h.IsTupleIter it a i) : a ≠ it := fun z => by
  obtain ⟨o, h1, h2, _⟩ := p
  obtain ⟨o', h3, h4, _⟩ := q
  rw [z, h3] at h1
  cases h1
  rw [h4] at h2
  injection h2 with h2
  exact absurd h2 (by decide)
theorem turn_enumT {P : Program} {w : World} {K : PySem.W.Frag} {elts : List Expr} {kk : Nat} {tpos : Pos} (a e it : Addr) :
    Turn P w K (.Tuple elts kk tpos) (Itet K a) [e, it] e (fun i h => (∃ old, IsEnum h e it ((i : Nat) : Int) old) ∧ h.IsTupleIter it a i ∧ e ≠ it) where
  mem := by simp
  obj := fun i h st b hb => by
    obtain ⟨⟨old, he⟩, ⟨o, ho, hc, hd⟩, _⟩ := st
    have e' : b = e ∨ b = it := by simpa using hb
    rcases e' with z | z
    · rw [z]; exact ⟨_, he, fun v q => nomatch q⟩
    · rw [z]; exact ⟨o, ho, fun v q => by rw [hd] at q; cases q⟩
  keep := fun i h h' st k => let ⟨⟨old, he⟩, hi, hne⟩ := st; ⟨⟨old, k e (by simp) _ he⟩, hi.at fun o q => k it (by simp) o q, hne⟩
  item := by
    intro X hP hw hK hc i pins s σ H E I hf st hg
    subst hP hw hK
    obtain ⟨⟨old, he⟩, hit, hne⟩ := st
    obtain ⟨xs, x, hq, hx⟩ := hg
    obtain ⟨its, rv, p, hz⟩ := I.tuple hq
    obtain ⟨u, hu, ru⟩ := rv.get hx
    have p' : s.heap.IsTuple a its.toArray := p
    have hai := tup_ne_iter p' hit
    have hea : e ≠ a := fun z => by
      obtain ⟨o, h1, h2, _⟩ := p'
      rw [← z, he] at h1
      cases h1
      replace h2 : Value.type "enumerate" = Value.type "tuple" := h2
      injection h2 with h2
      exact absurd h2 (by decide)
    have hel : e < s.heap.objs.size := Heap.lt_size he
    have hil : it < s.heap.objs.size := by obtain ⟨_, q, _⟩ := id hit; exact Heap.lt_size q
    have hi : i < its.toArray.size := by
      have := (List.getElem?_eq_some_iff.mp hu).1
      simpa using this
    have D := Draws.tuple (prog := X.prog) (w := X.w) (A := X.A.in1) (show X.A.in1.handled = none from I.ok.hd hc) it a hai its.toArray
    refine wpAny_pyNext_enum_itemD D he ⟨hit, p'⟩ hi hne (by simp [hne, hea]) fun x' h' tk hP ho st' hT hsz hk => ?_
    have ex : x' = u := by
      have : its[i]? = some x' := by simpa using hP
      rw [hu] at this
      exact (Option.some.inj this).symm
    subst ex
    refine ⟨_, rfl, wpAny_letOwnedTupleGo_enum (s := { s with heap := h', toks := tk + 1 }) ho fun h'' he' sb => ?_⟩
    have hT2 : h''.get? s.heap.objs.size = some { cls := .type "tuple", data := .seq #[.int i tk, x'] } := (sb.2 _ (Nat.ne_of_gt hel)).trans hT
    have new : ObjOk X.prog X.w (upd H s.heap.objs.size (.tup [.int (i : Nat), x])) h'' s.heap.objs.size (.tup [.int (i : Nat), x]) :=
      ⟨by show 2 ≤ sizeLine; decide, [.int i tk, x'], .cons ⟨_, rfl⟩ (.cons ru .nil), ⟨_, hT2, rfl, _, rfl⟩⟩
    have I1 : Inv X pins σ (upd H s.heap.objs.size (.tup [.int (i : Nat), x])) { s with heap := h'', toks := tk + 1 } :=
      I.turnedNew (ch := [e, it]) (fun b ob hb q => (sb.2 b (fun z => hb (by simp [z]))).trans (hk b ob (fun z => hb (by simp [z])) (fun z => hb (by simp [z])) q)) hf (Nat.le_refl _) new
    refine ⟨.ref s.heap.objs.size, _, I1, rfl, ⟨_, x, rfl, I.hok.fresh (Nat.le_refl _), rfl, fun ys hy => by rw [I.tuple_inj hy hq]; exact hx⟩, ⟨⟨x', ?_⟩, st'.1.at fun o q => (sb.2 it (Ne.symm hne)).trans q, hne⟩, fun b hb => ?_⟩
    · have e1 : ((i + 1 : Nat) : Int) = (i : Int) + 1 := by omega
      rw [e1]; exact he'
    · have hb' : b < s.heap.objs.size := by
        have e' : b = e ∨ b = it := by simpa using hb
        rcases e' with z | z
        · rw [z]; exact hel
        · rw [z]; exact hil
      rw [upd_ne (Nat.ne_of_lt hb')]
      exact (hf b hb).1
  done := by
    intro X hP hw hK hc i pins s σ H E I hf st hg
    subst hP hw hK
    obtain ⟨⟨old, he⟩, hit, hne⟩ := st
    obtain ⟨xs, hq, hx⟩ := hg
    obtain ⟨its, rv, p, hz⟩ := I.tuple hq
    have p' : s.heap.IsTuple a its.toArray := p
    have hai := tup_ne_iter p' hit
    obtain ⟨f0, f1, f2, f3, f4, f5⟩ := hf it (by simp)
    have hl := rv.length
    have en : i = its.toArray.size := by simp; omega
    subst en
    have D := Draws.tuple (prog := X.prog) (w := X.w) (A := X.A.in1) (show X.A.in1.handled = none from I.ok.hd hc) it a hai its.toArray
    exact wpAny_pyNext_enum_endD D he ⟨hit, p'⟩ fun h' eb => ⟨rfl, I.turned (t' := s.toks) (fun b o hb q => eb b o hb q) f0 f1 f3 f4 f5⟩
  self := fun A i s Q E st h => let ⟨⟨_, he⟩, _⟩ := st; wpAny_pyIter_enum he h
def iEnumT (K : PySem.W.Frag) (ta : TA) : TI := fun σ H R => ta σ H fun vs H1 => ∃ a xs, vs = [.ref a] ∧ SqT K H1 a xs ∧ R (Itet K a) H1
theorem pi_enumT {X : Cx} {e : Expr} {ta : TA} {p pos tpos : Pos} {elts : List Expr} {kk : Nat} (hg : Gl X "enumerate") (hm : X.mg "enumerate" = none) (ha : PA X [e] ta) (hs : starEach [e] X.env = [(false, eval e X.env)] := by rfl) :
    PI X (.Tuple elts kk tpos) (.Call (.Name "enumerate" p) [e] [] pos) (iEnumT X.K ta) := by
  refine ⟨fun pins s σ H R I h => ?_⟩
  refine Call_ (ld_blt I hg hm boot_enumerate (PyProof.Rows.callWith_type1 (thn (ha.run pos pins s σ H _ I h) fun us s1 ⟨vs, H1, I1, r1, q1⟩ => ?_) hs rfl))
  obtain ⟨a, xs, ex, hq, q⟩ := q1
  subst ex
  cases r1 with
  | cons r rr =>
    cases rr
    cases r
    obtain ⟨its, rv, p', hz⟩ := I1.tuple hq
    refine enum_begins1 (begins_tuple a its.toArray) (show s1.heap.IsTuple a its.toArray from p') fun h' he hit hsz hk => wpAny_pyIter_enum he ?_
    have I2 : Inv X pins σ H1 { s1 with heap := h' } := I1.kept (t' := s1.toks) hk
    refine ⟨s1.heap.objs.size + 1, [s1.heap.objs.size + 1, s1.heap.objs.size], _, _, H1, rfl, I2, turn_enumT a (s1.heap.objs.size + 1) s1.heap.objs.size, ⟨⟨.none, he⟩, ⟨_, hit, rfl, rfl⟩, Nat.succ_ne_self _⟩, fun b hb => ?_, q⟩
    have e' : b = s1.heap.objs.size + 1 ∨ b = s1.heap.objs.size := by simpa using hb
    have hle : s1.heap.objs.size ≤ b := by
      rcases e' with z | z
      · rw [z]; exact Nat.le_add_right _ _
      · rw [z]; exact Nat.le_refl _
    exact I1.fpOk hle (I1.hok.fresh hle)
end L2
namespace Toy
open PySem L2
/-! ### data -/
def vI (ns : List Int) : List V := ns.map V.int
def asc (ns : List Int) (n : Nat) : List Int := ((List.range n).filter fun (i : Nat) => decide ((i : Int) ∈ ns)).map fun (i : Nat) => (i : Int)
def isW (n : Nat) (x : Int) : Bool := decide (0 ≤ x) && decide (x < (n : Int))
/-- a list or a tuple of the vI ns -/
def Sq (K : PySem.W.Frag) (H : Hp) (a : Addr) (ns : List Int) : Prop := SqL K H a (vI ns) ∨ SqT K H a (vI ns)
theorem inV_vI (x : Int) : ∀ ns : List Int, inV (.int x) (vI ns) = decide (x ∈ ns)
  | [] => by simp [inV, vI]
  | y :: r => by
    have ih := inV_vI x r
    show ((y == x) || inV (.int x) (vI r)) = decide (x ∈ y :: r)
    rw [ih]
    by_cases h : y = x
    · subst h
      simp
    · have h' : ¬ x = y := fun z => h z.symm
      simp [h, h']
theorem flat_vI : ∀ ns : List Int, (vI ns).all flatV = true
  | [] => rfl
  | _ :: r => flat_vI r
theorem Sq.same {K : PySem.W.Frag} {H H' : Hp} {a : Addr} {ns : List Int} (s : Same H H') (h : Sq K H a ns) : Sq K H' a ns := by
  rcases h with h | h
  · exact .inl (s.seq h)
  · refine .inr ?_
    rcases h with (h | ⟨o, h⟩) | h
    · exact .inl (.inl (s _ _ h))
    · exact .inl (.inr ⟨o, s _ _ h⟩)
    · exact .inr h
theorem Same.upd {H H' : Hp} {p : Addr} {o : HO} (s : Same H H') (n : H' p = none) : Same H (L2.upd H' p o) := fun b u e => by
  rw [upd_ne (ne_of_none (s b u e) n)]
  exact s b u e
theorem asc_succ (ns : List Int) (i : Nat) : asc ns (i + 1) = if (i : Int) ∈ ns then asc ns i ++ [(i : Int)] else asc ns i := by
  unfold asc
  rw [List.range_succ, List.filter_append]
  by_cases h : (i : Int) ∈ ns
  · rw [if_pos h]
    simp [h]
  · rw [if_neg h]
    simp [h]
theorem asc_len (ns : List Int) (n : Nat) : (asc ns n).length ≤ n := by
  unfold asc
  rw [List.length_map]
  exact Nat.le_trans (List.length_filter_le _ _) (by simp)
theorem yesT {σ : St} {H : Hp} {R : Bool → Hp → Prop} (h : R true H) : tYes σ H R := h
theorem vI_at {ns : List Int} {i : Nat} {y : V} (h : (vI ns)[i]? = some y) : ∃ x, ns[i]? = some x ∧ y = V.int x := by
  unfold vI at h
  rw [List.getElem?_map] at h
  cases e : ns[i]? with
  | none =>
    rw [e] at h
    cases h
  | some x =>
    rw [e] at h
    exact ⟨x, rfl, (Option.some.inj h).symm⟩
theorem take_more {α : Type} : ∀ {l : List α} {i : Nat} {x : α}, l[i]? = some x → l.take (i + 1) = l.take i ++ [x]
  | [], i, x, h => by simp at h
  | a :: l, 0, x, h => by
    have e : a = x := Option.some.inj h
    subst e
    rfl
  | a :: l, i + 1, x, h => by
    have ih := take_more (l := l) (i := i) (x := x) h
    show a :: l.take (i + 1) = a :: l.take i ++ [x]
    rw [ih]
    rfl
/-! ### the text by places -/
def top (i : Nat) : Stmt := PySem.Challenge.pw_murmurline_k12_person_said.main.body.getD i (.Pass ⟨0, 0, 0, 0⟩)
abbrev sIsSize : Stmt := top 23
abbrev sCheckSize : Stmt := top 24
abbrev sIsWord : Stmt := top 26
abbrev sAllWords : Stmt := top 27
abbrev sCheckWord : Stmt := top 28
abbrev sAsc : Stmt := top 30
/-! ### promises -/
def spIsWord : Sp := fun vs H Q _ => ∃ (x : Int) (n : Nat), vs = [.int x, .int n] ∧ Q (.bl (isW n x)) H
def spAllWords (K : PySem.W.Frag) : Sp := fun vs H Q _ => ∃ (a : Addr) (ns : List Int) (n : Nat), vs = [.ref a, .int n] ∧ SqL K H a (vI ns) ∧ ns.length < sizeLine ∧ ∀ H', Same H H' → Q (.bl (ns.all (isW n))) H'
def spAsc (K : PySem.W.Frag) : Sp := fun vs H Q _ => ∃ (a : Addr) (ns : List Int) (n : Nat), vs = [.ref a, .int n] ∧ Sq K H a ns ∧ n ≤ 6 ∧ ∀ H' p, Same H H' → H p = none → H' p = some (.lst (vI (asc ns n))) → Q (.ref p) H'
structure Bt (mg : Str → Option Value) : Prop where
  len : mg "len" = none
  range : mg "range" = none
  all : mg "all" = none
  list : mg "list" = none
  tuple : mg "tuple" = none
  enumerate : mg "enumerate" = none
  isinstance : mg "isinstance" = none
  int : mg "int" = none
  bool : mg "bool" = none
  str : mg "str" = none
  abs : mg "abs" = none
section
variable {P : Program} {w : World} {K : PySem.W.Frag} {mg : Str → Option Value} {base : Heap}
theorem scIsWord : FnScope ["word", "size"] ["word", "size"] (defScope sIsWord) := ⟨rfl, rfl, rfl, by decide +kernel, rfl, by decide +kernel, by decide +kernel⟩
theorem ok_isWord {f : Addr} {fd : FuncData} (F : Fun K "is_word" "is_word" sIsWord f fd) : FnOk P w K mg base CX0 1 f fd ["word", "size"] spIsWord := by
  refine F.ok scIsWord (fun vs H Q E h => ?_) (fun cdv A outer s H vs Q E hr h => ?_)
  · obtain ⟨x, n, rfl, _⟩ := h
    rfl
  · obtain ⟨x, n, rfl, k⟩ := h
    refine ⟨_, pss_one (ps_ret (pe_chain op_le op_lt pe_int (pv 0) (pv 1))), ?_⟩
    refine ⟨_, rfl, _, _, rfl, rfl, _, rfl, ?_⟩
    by_cases h0 : (0 : Int) ≤ x
    · rw [decide_eq_true h0]
      refine iteT ⟨_, rfl, _, _, rfl, rfl, ?_⟩
      have e : isW n x = decide (x < (n : Int)) := by unfold isW; rw [decide_eq_true h0]; rfl
      rw [e] at k
      exact k
    · rw [decide_eq_false h0]
      refine iteF ?_
      have e : isW n x = false := by unfold isW; rw [decide_eq_false h0]; rfl
      rw [e] at k
      exact k
theorem scAllWords : FnScope ["words", "size", "word"] ["words", "size"] (defScope sAllWords) := ⟨rfl, rfl, rfl, by decide +kernel, rfl, by decide +kernel, by decide +kernel⟩
theorem ok_allWords {f g : Addr} {fd fdg : FuncData} (F : Fun K "all_words" "all_words" sAllWords f fd) (B : Bt mg) (G : Fun K "is_word" "is_word" sIsWord g fdg) (mgG : mg "is_word" = some (.ref g)) (bG : Binds K fdg ["word", "size"] []) :
    FnOk P w K mg base CX0 2 f fd ["words", "size"] (spAllWords K) := by
  refine F.ok scAllWords (fun vs H Q E h => ?_) (fun cdv A outer s H vs Q E hr h => ?_)
  · obtain ⟨a, ns, n, rfl, _⟩ := h
    rfl
  · obtain ⟨a, ns, n, rfl, hS, hlen, k⟩ := h
    refine ⟨_, pss_one (ps_ret (pe_callB (cr_all rfl) (by rfl) B.all (by decide +kernel) (pa_cons (pe_lc (own := [("word", 2)]) (g := gName 2) (tt := tYes) rfl scAllWords.nd (pi_list (pv 0)) (blkOk_by (own := [("word", 2)]) (N := ["words", "size", "word"]) (sc := defScope sAllWords) (by decide +kernel))
      (fun _ _ _ _ _ => pg_name (i := 2) scAllWords.nd rfl (Or.inl rfl)) (fun _ _ _ _ _ => pts_nil)
      (fun _ _ _ _ _ => pe_call (ok_isWord G) hr rfl mgG G.kp bG .nil pass0 (pa_cons (pv 2) (pa_cons (pv 1) pa_nil)))) pa_nil))), ?_⟩
    refine ⟨_, rfl, a, rfl, ⟨_, hS⟩, fun D hD => ?_⟩
    refine lc_list (K := K) (a := a) (xs := vI ns) (fun i H' => Same H H' ∧ H' D = some (.lst ((ns.take i).map fun x => V.bl (isW n x)))) ⟨Same.upd (Same.refl H) hD, upd_same⟩ (fun i H' _ ⟨s, _⟩ => s.seq hS) ?_ ?_
    · rintro i y H' hi ⟨s, hd⟩
      obtain ⟨x, hx, rfl⟩ := vI_at hi
      refine ⟨rfl, ?_⟩
      refine yesT ?_
      refine iteT ?_
      refine ⟨_, rfl, _, rfl, x, n, rfl, ?_⟩
      refine ⟨_, hd, ?_, ?_, ?_⟩
      · rw [List.length_map]
        exact Nat.lt_of_le_of_lt (List.length_take_le' _ _) hlen
      · exact fun b u e => (ne_of_none e hD) |> fun z => by rw [upd_ne z]; exact s b u e
      · rw [upd_same, take_more hx, List.map_append]
        rfl
    · rintro H' ⟨s, hd⟩
      have el : (vI ns).length = ns.length := List.length_map ..
      rw [el, List.take_length] at hd
      refine ⟨D, ns.map (isW n), rfl, SqL.of ?_, ?_⟩
      · rw [hd, List.map_map]
        rfl
      · have := k H' s
        rw [List.all_map]
        exact this
theorem scIsSize : FnScope ["size"] ["size"] (defScope sIsSize) := ⟨rfl, rfl, rfl, by decide +kernel, rfl, by decide +kernel, by decide +kernel⟩
structure CT (K : PySem.W.Frag) (mg : Str → Option Value) (C : Addr) : Prop where
  mgC : mg "Table" = some (.ref C)
  cl : Cls K C
  rd : ClX.CRead K C (.type "type")
  most : ∃ t, PySem.W.findCls K (.ref C) (.type "type") "MOST" = some (.val (.int 6 t))
  nS : NoAttr K C "size"
  nR : NoAttr K C "_rows"
  nP : NoAttr K C "_pairs"
def spIsSize : Sp := fun vs H Q _ => ∃ n : Int, vs = [.int n] ∧ Q (.bl (decide (1 ≤ n) && decide (n ≤ 6))) H
theorem ok_isSize {f C : Addr} {fd : FuncData} (F : Fun K "is_size" "is_size" sIsSize f fd) (T : CT K mg C) : FnOk P w K mg base CX0 1 f fd ["size"] spIsSize := by
  refine F.ok scIsSize (fun vs H Q E h => ?_) (fun cdv A outer s H vs Q E hr h => ?_)
  · obtain ⟨n, rfl, _⟩ := h
    rfl
  · obtain ⟨n, rfl, k⟩ := h
    obtain ⟨t, hm⟩ := T.most
    refine ⟨_, pss_one (ps_ret (pe_chain op_le op_le pe_int (pv 0) (ClX.pe_cval (pe_glob rfl T.mgC (v := .ref C) rfl)))), ?_⟩
    refine ⟨_, rfl, _, _, rfl, rfl, _, rfl, ?_⟩
    by_cases h0 : (1 : Int) ≤ n
    · rw [decide_eq_true h0] at k ⊢
      refine iteT ⟨C, _, .int 6, _, rfl, T.rd, ⟨hm, _, rfl⟩, _, _, rfl, rfl, ?_⟩
      exact k
    · rw [decide_eq_false h0] at k ⊢
      refine iteF ?_
      exact k
theorem scCheckSize : FnScope ["size"] ["size"] (defScope sCheckSize) := ⟨rfl, rfl, rfl, by decide +kernel, rfl, by decide +kernel, by decide +kernel⟩
def spCheckSize : Sp := fun vs H Q _ => ∃ n : Int, vs = [.int n] ∧ 1 ≤ n ∧ n ≤ 6 ∧ Q .non H
theorem ok_checkSize {f g C : Addr} {fd fdg : FuncData} (F : Fun K "check_size" "check_size" sCheckSize f fd) (T : CT K mg C) (G : Fun K "is_size" "is_size" sIsSize g fdg) (mgG : mg "is_size" = some (.ref g)) (bG : Binds K fdg ["size"] []) :
    FnOk P w K mg base CX0 2 f fd ["size"] spCheckSize := by
  refine F.ok scCheckSize (fun vs H Q E h => ?_) (fun cdv A outer s H vs Q E hr h => ?_)
  · obtain ⟨n, rfl, _⟩ := h
    rfl
  · obtain ⟨n, rfl, h1, h2, k⟩ := h
    refine ⟨_, pss_one (ps_if (pt_not (pt_val (pe_call (ok_isSize G T) hr rfl mgG G.kp bG .nil pass0 (pa_cons (pv 0) pa_nil)))) (pss_one ps_never) pss_nil), ?_⟩
    refine ⟨_, rfl, n, rfl, _, rfl, ?_⟩
    rw [decide_eq_true h1, decide_eq_true h2]
    exact iteF k
theorem scCheckWord : FnScope ["word", "size"] ["word", "size"] (defScope sCheckWord) := ⟨rfl, rfl, rfl, by decide +kernel, rfl, by decide +kernel, by decide +kernel⟩
def spCheckWord : Sp := fun vs H Q _ => ∃ (x : Int) (n : Nat), vs = [.int x, .int n] ∧ isW n x = true ∧ Q .non H
theorem ok_checkWord {f g : Addr} {fd fdg : FuncData} (F : Fun K "check_word" "check_word" sCheckWord f fd) (G : Fun K "is_word" "is_word" sIsWord g fdg) (mgG : mg "is_word" = some (.ref g)) (bG : Binds K fdg ["word", "size"] []) :
    FnOk P w K mg base CX0 2 f fd ["word", "size"] spCheckWord := by
  refine F.ok scCheckWord (fun vs H Q E h => ?_) (fun cdv A outer s H vs Q E hr h => ?_)
  · obtain ⟨x, n, rfl, _⟩ := h
    rfl
  · obtain ⟨x, n, rfl, h1, k⟩ := h
    refine ⟨_, pss_one (ps_if (pt_not (pt_val (pe_call (ok_isWord G) hr rfl mgG G.kp bG .nil pass0 (pa_cons (pv 0) (pa_cons (pv 1) pa_nil))))) (pss_one ps_never) pss_nil), ?_⟩
    refine ⟨_, rfl, _, rfl, x, n, rfl, _, rfl, ?_⟩
    rw [h1]
    exact iteF k
theorem scAsc : FnScope ["words", "size", "word"] ["words", "size"] (defScope sAsc) := ⟨rfl, rfl, rfl, by decide +kernel, rfl, by decide +kernel, by decide +kernel⟩
theorem ok_asc {f : Addr} {fd : FuncData} (F : Fun K "ascending" "ascending" sAsc f fd) (B : Bt mg) : FnOk P w K mg base CX0 1 f fd ["words", "size"] (spAsc K) := by
  refine F.ok scAsc (fun vs H Q E h => ?_) (fun cdv A outer s H vs Q E hr h => ?_)
  · obtain ⟨a, ns, n, rfl, _⟩ := h
    rfl
  · obtain ⟨a, ns, n, rfl, hS, hn, k⟩ := h
    refine ⟨_, pss_one (ps_ret (pe_lc (own := [("word", 2)]) (g := gName 2) (tt := tTest (tOp (rIn K false) (tVar 2) (tVar 0))) rfl scAsc.nd (pi_range1 (by rfl) B.range (pa_cons (pv 1) pa_nil)) (blkOk_by (own := [("word", 2)]) (N := ["words", "size", "word"]) (sc := defScope sAsc) (by decide +kernel))
      (fun _ _ _ _ _ => pg_name (i := 2) scAsc.nd rfl (Or.inl rfl)) (fun _ _ _ _ _ => pts_one (pt_cmpR op_in_seq (pv 2) (pv 0) (by rfl)))
      (fun _ _ _ _ _ => pv 2))), ?_⟩
    refine ⟨_, rfl, n, rfl, by omega, by omega, fun D hD => ?_⟩
    refine lc_range (lo := 0) (n := n) (fun i H' => Same H H' ∧ H' D = some (.lst (vI (asc ns i)))) ⟨Same.upd (Same.refl H) hD, upd_same⟩ ?_ ?_
    · rintro i H' hi ⟨s, hd⟩
      refine ⟨rfl, ?_⟩
      refine ⟨_, rfl, _, rfl, a, _, rfl, hS.same s, rfl, flat_vI ns, _, rfl, ?_⟩
      have e0 : (0 : Int) + (i : Int) = (i : Int) := by omega
      rw [e0]
      show if (if false = true then !inV (.int (i : Int)) (vI ns) else inV (.int (i : Int)) (vI ns)) = true then _ else _
      rw [if_neg Bool.false_ne_true, inV_vI, asc_succ]
      by_cases hm : (i : Int) ∈ ns
      · rw [decide_eq_true hm, if_pos hm]
        refine iteT ?_
        refine ⟨_, rfl, _, hd, ?_, ?_, ?_⟩
        · show (vI (asc ns i)).length < sizeLine
          unfold vI
          rw [List.length_map]
          exact Nat.lt_of_le_of_lt (asc_len ns i) (Nat.lt_of_lt_of_le (Nat.lt_of_lt_of_le hi hn) (by decide))
        · exact fun b u e => (ne_of_none e hD) |> fun z => by rw [upd_ne z]; exact s b u e
        · rw [upd_same]
          unfold vI
          rw [List.map_append]
          rfl
      · rw [decide_eq_false hm, if_neg hm]
        exact iteF ⟨s, hd⟩
    · rintro H' ⟨s, hd⟩
      exact k H' D s hD hd
end
end Toy
namespace L2
open PySem PySem.Spec PyProof.Rows
section
variable {J : It} {n : Nat} {G : Hp → Prop} {Y : Nat → Hp → V → Hp → Prop}
/-- the outer loop of [e for a in A for b in B] -/
theorem lc2_out (w : Walk J n G Y) {F : (Hp → Prop) → V → Hp → Prop} {H1 : Hp} {D : Addr} {Qd : Hp → Prop} (Pv : Nat → Hp → Prop) (h0 : Pv 0 (upd H1 D (.lst []))) (hG : ∀ i H, i ≤ n → Pv i H → G H)
    (hs : ∀ i x H H', i < n → Pv i H → Y i H x H' → F (Pv (i + 1)) x H') (hd : ∀ H, Pv n H → Qd H) :
    ∃ W : Nat → Nat → Hp → Prop, (∃ m, W 0 m (upd H1 D (.lst []))) ∧ ∀ i m H, W i m H →
      (J.stop i H ∧ Qd H) ∨ (J.go i H ∧ ∃ Nx : Hp → Prop, (∀ H', Nx H' → ∃ m', m' < m ∧ W (i + 1) m' H') ∧ ∀ x H', J.yld i H x H' → F Nx x H') := by
  refine ⟨fun i m H => m = n - i ∧ i ≤ n ∧ Pv i H, ⟨n, by simp, Nat.zero_le _, h0⟩, ?_⟩
  rintro i m H ⟨rfl, hi, p⟩
  have q := hG i H hi p
  by_cases hlt : i < n
  · exact .inr ⟨w.goes i H hlt q, Pv (i + 1), fun H' p' => ⟨n - (i + 1), by omega, rfl, hlt, p'⟩, fun x H' y => hs i x H H' hlt p (w.yields i H x H' hlt q y)⟩
  · have e : i = n := by omega
    subst e
    exact .inl ⟨w.stops H q, hd H p⟩
/-- the inner one -/
theorem lc2_in (w : Walk J n G Y) {F : (Hp → Prop) → V → Hp → Prop} {H1 : Hp} {Qd : Hp → Prop} (Pv : Nat → Hp → Prop) (h0 : Pv 0 H1) (hG : ∀ i H, i ≤ n → Pv i H → G H)
    (hs : ∀ i x H H', i < n → Pv i H → Y i H x H' → F (Pv (i + 1)) x H') (hd : ∀ H, Pv n H → Qd H) :
    ∃ W : Nat → Nat → Hp → Prop, (∃ m, W 0 m H1) ∧ ∀ i m H, W i m H →
      (J.stop i H ∧ Qd H) ∨ (J.go i H ∧ ∃ Nx : Hp → Prop, (∀ H', Nx H' → ∃ m', m' < m ∧ W (i + 1) m' H') ∧ ∀ x H', J.yld i H x H' → F Nx x H') := by
  refine ⟨fun i m H => m = n - i ∧ i ≤ n ∧ Pv i H, ⟨n, by simp, Nat.zero_le _, h0⟩, ?_⟩
  rintro i m H ⟨rfl, hi, p⟩
  have q := hG i H hi p
  by_cases hlt : i < n
  · exact .inr ⟨w.goes i H hlt q, Pv (i + 1), fun H' p' => ⟨n - (i + 1), by omega, rfl, hlt, p'⟩, fun x H' y => hs i x H H' hlt p (w.yields i H x H' hlt q y)⟩
  · have e : i = n := by omega
    subst e
    exact .inl ⟨w.stops H q, hd H p⟩
theorem walk_enumT {K : PySem.W.Frag} {a : Addr} {xs : List V} : Walk (Itet K a) xs.length (fun H => SqT K H a xs) (YPair (fun i => some (.int (i : Nat))) (fun i => xs[i]?)) := by
  refine ⟨fun i _ hi q => ⟨xs, xs[i], q, by simp [hi]⟩, fun _ q => ⟨xs, q, rfl⟩, fun i H v H' _ q y => ?_⟩
  obtain ⟨T, x, h1, h2, h3, h4⟩ := y
  exact ⟨T, .int (i : Nat), x, h1, h2, h3, rfl, h4 xs q⟩
end
theorem Paired.snoc {α β : Type} {F : α → β → Prop} {x : α} {y : β} (f : F x y) : ∀ {xs : List α} {ys : List β}, Paired F xs ys → Paired F (xs ++ [x]) (ys ++ [y])
  | _, _, .nil => .cons f .nil
  | _, _, .cons r t => .cons r (Paired.snoc f t)
theorem Paired.at {α β : Type} {F : α → β → Prop} : ∀ {xs : List α} {ys : List β} {i : Nat} {x : α}, Paired F xs ys → xs[i]? = some x → ∃ y, ys[i]? = some y ∧ F x y
  | _, _, _, _, .nil, e => by simp at e
  | _, _, 0, _, .cons r _, e => by simp at e; subst e; exact ⟨_, rfl, r⟩
  | _, _, i + 1, x, .cons _ t, e => by
    obtain ⟨u, h1, h2⟩ := Paired.at (i := i) (x := x) t (by simpa using e)
    exact ⟨u, by simpa using h1, h2⟩
theorem Paired.at2 {α β : Type} {F : α → β → Prop} : ∀ {xs : List α} {ys : List β} {i : Nat} {y : β}, Paired F xs ys → ys[i]? = some y → ∃ x, xs[i]? = some x ∧ F x y
  | _, _, _, _, .nil, e => by simp at e
  | _, _, 0, _, .cons r _, e => by simp at e; subst e; exact ⟨_, rfl, r⟩
  | _, _, i + 1, x, .cons _ t, e => by
    obtain ⟨u, h1, h2⟩ := Paired.at2 (i := i) (y := x) t (by simpa using e)
    exact ⟨u, by simpa using h1, h2⟩
theorem PairedIn.map {α β : Type} {F G : α → β → Prop} : ∀ {l₁ : List α} {l₂ : List β}, Paired F l₁ l₂ → (∀ a b, a ∈ l₁ → F a b → G a b) → Paired G l₁ l₂
  | _, _, .nil, _ => .nil
  | _, _, .cons r t, f => .cons (f _ _ List.mem_cons_self r) (PairedIn.map t fun a b h => f a b (List.mem_cons_of_mem _ h))
end L2
namespace Toy
open PySem L2
def prs (k : Nat) : List (List Int) → List (Int × Int)
  | [] => []
  | r :: R => r.map (fun x => ((k : Int), x)) ++ prs (k + 1) R
theorem prs_snoc : ∀ (k : Nat) (A : List (List Int)) (r : List Int), prs k (A ++ [r]) = prs k A ++ r.map fun x => (((k + A.length : Nat) : Int), x)
  | k, [], r => by simp [prs]
  | k, a :: A, r => by
    show a.map _ ++ prs (k + 1) (A ++ [r]) = (a.map _ ++ prs (k + 1) A) ++ _
    rw [prs_snoc (k + 1) A r, List.append_assoc]
    have e : k + 1 + A.length = k + (a :: A).length := by simp; omega
    rw [e]
theorem prs_len : ∀ (k : Nat) (A : List (List Int)), (∀ r ∈ A, r.length ≤ 6) → (prs k A).length ≤ 6 * A.length
  | k, [], _ => by simp [prs]
  | k, a :: A, h => by
    have ih := prs_len (k + 1) A fun r hr => h r (List.mem_cons_of_mem _ hr)
    have := h a List.mem_cons_self
    simp [prs]
    omega
def vP (p : Int × Int) : List V := [.int p.1, .int p.2]
end Toy
namespace Toy
open PySem L2
abbrev RowsT (H : Hp) (ts : List V) (R : List (List Int)) : Prop := Paired (fun v r => ∃ t, v = V.ref t ∧ H t = some (.tup (vI r))) ts R
abbrev RowsL (H : Hp) (ls : List V) (R : List (List Int)) : Prop := Paired (fun v r => ∃ t, v = V.ref t ∧ H t = some (.lst (vI r))) ls R
abbrev PairsT (H : Hp) (qs : List V) (P : List (Int × Int)) : Prop := Paired (fun v p => ∃ t, v = V.ref t ∧ H t = some (.tup (vP p))) qs P
theorem RowsT.same {H H' : Hp} {ts R} (s : Same H H') (h : RowsT H ts R) : RowsT H' ts R := L2.Paired.mapP h fun _ _ ⟨t, e, q⟩ => ⟨t, e, s _ _ q⟩
theorem RowsL.same {H H' : Hp} {ts R} (s : Same H H') (h : RowsL H ts R) : RowsL H' ts R := L2.Paired.mapP h fun _ _ ⟨t, e, q⟩ => ⟨t, e, s _ _ q⟩
theorem PairsT.same {H H' : Hp} {ts R} (s : Same H H') (h : PairsT H ts R) : PairsT H' ts R := L2.Paired.mapP h fun _ _ ⟨t, e, q⟩ => ⟨t, e, s _ _ q⟩
/-- the attributes of a table -/
def tf (n : Nat) (tr tp : Addr) : List (Str × V) := [("size", V.int n), ("_rows", V.ref tr), ("_pairs", V.ref tp)]
theorem sr_ : ¬ (("size" : Str) = "_rows") := by decide +kernel
theorem sp_ : ¬ (("size" : Str) = "_pairs") := by decide +kernel
theorem rp_ : ¬ (("_rows" : Str) = "_pairs") := by decide +kernel
theorem rs_ : ¬ (("_rows" : Str) = "size") := by decide +kernel
theorem tf_1 (n : Nat) : putF "size" (.int n) [] = ([("size", V.int n)] : List (Str × V)) := rfl
theorem tf_2 (n : Nat) (tr : Addr) : putF "_rows" (.ref tr) ([("size", V.int n)] : List (Str × V)) = ([("size", V.int n), ("_rows", V.ref tr)] : List (Str × V)) := by
  show (if ("size" : Str) = "_rows" then [(("size" : Str), V.ref tr)] else (("size" : Str), V.int n) :: putF "_rows" (V.ref tr) []) = ([("size", V.int n), ("_rows", V.ref tr)] : List (Str × V))
  rw [if_neg sr_]
  rfl
theorem tf_3 (n : Nat) (tr tp : Addr) : putF "_pairs" (.ref tp) ([("size", V.int n), ("_rows", V.ref tr)] : List (Str × V)) = tf n tr tp := by
  show (if ("size" : Str) = "_pairs" then _ else (("size" : Str), V.int n) :: (if ("_rows" : Str) = "_pairs" then _ else (("_rows" : Str), V.ref tr) :: putF "_pairs" (V.ref tp) [])) = tf n tr tp
  rw [if_neg sp_, if_neg rp_]
  rfl
theorem tf_size (n : Nat) (tr tp : Addr) : (tf n tr tp).lookup ("size" : Str) = some (.int n) := by simp [tf, List.lookup]
theorem tf_rows (n : Nat) (tr tp : Addr) : (tf n tr tp).lookup ("_rows" : Str) = some (.ref tr) := by
  have h : (("_rows" : Str) == "size") = false := by simpa using rs_
  simp [tf, List.lookup, h]
theorem tf_no (n : Nat) (tr tp : Addr) {m : Str} (h1 : (m == "size") = false) (h2 : (m == "_rows") = false) (h3 : (m == "_pairs") = false) : (tf n tr tp).lookup m = none := by
  simp [tf, List.lookup, h1, h2, h3]
theorem RowsT.updL {H : Hp} {D : Addr} {xs ys : List V} {ts R} (h : RowsT H ts R) (hd : H D = some (.lst xs)) : RowsT (upd H D (.lst ys)) ts R :=
  L2.Paired.mapP h fun _ _ ⟨t, e, q⟩ => ⟨t, e, by rw [upd_ne (ne_of q hd (fun z => nomatch z))]; exact q⟩
theorem PairsT.updL {H : Hp} {D : Addr} {xs ys : List V} {ts R} (h : PairsT H ts R) (hd : H D = some (.lst xs)) : PairsT (upd H D (.lst ys)) ts R :=
  L2.Paired.mapP h fun _ _ ⟨t, e, q⟩ => ⟨t, e, by rw [upd_ne (ne_of q hd (fun z => nomatch z))]; exact q⟩
theorem Same.updN {H H' : Hp} {D : Addr} {o : HO} (s : Same H H') (hD : H D = none) : Same H (L2.upd H' D o) := fun b u e => by
  rw [upd_ne (ne_of_none e hD)]
  exact s b u e
theorem Same.new {H : Hp} {D : Addr} {o : HO} (hD : H D = none) : Same H (L2.upd H D o) := Same.updN (Same.refl H) hD
theorem vI_len (ns : List Int) : (vI ns).length = ns.length := List.length_map ..
/-- a table stands at p, its rows R -/
def Tab (C : Addr) (H : Hp) (p : Addr) (R : List (List Int)) : Prop :=
  ∃ (dx tr tp : Addr) (ts qs : List V), H p = some (.ins C dx (tf R.length tr tp)) ∧ H dx = some (.own p) ∧ H tr = some (.tup ts) ∧ RowsT H ts R ∧ H tp = some (.tup qs) ∧ PairsT H qs (prs 0 R) ∧
    1 ≤ R.length ∧ R.length ≤ 6 ∧ ∀ r ∈ R, r.length ≤ 6
theorem Tab.same {C : Addr} {H H' : Hp} {p : Addr} {R} (s : Same H H') (h : Tab C H p R) : Tab C H' p R := by
  obtain ⟨dx, tr, tp, ts, qs, h1, h2, h3, h4, h5, h6, h7⟩ := h
  exact ⟨dx, tr, tp, ts, qs, s _ _ h1, s _ _ h2, s _ _ h3, RowsT.same s h4, s _ _ h5, PairsT.same s h6, h7⟩
abbrev sTable : Stmt := top 31
abbrev sInit : Stmt := inClass sTable 1
/-- the given rows: each a list of words -/
def spInit (K : PySem.W.Frag) (C : Addr) : Sp := fun vs H Q _ => ∃ (p dx l : Addr) (ls : List V) (G : List (List Int)), vs = [.ref p, .ref l] ∧ H p = some (.ins C dx []) ∧ H dx = some (.own p) ∧ H l = some (.lst ls) ∧ RowsL H ls G ∧
  1 ≤ G.length ∧ G.length ≤ 6 ∧ (∀ g ∈ G, g.length < sizeLine ∧ g.all (isW G.length) = true) ∧
  ∀ H', (∀ b o, b ≠ p → H b = some o → H' b = some o) → Tab C H' p (G.map fun g => asc g G.length) → Q .non H'
section
variable {P : Program} {w : World} {K : PySem.W.Frag} {mg : Str → Option Value} {base : Heap}
structure Gs (K : PySem.W.Frag) (mg : Str → Option Value) (C : Addr) : Prop where
  B : Bt mg
  T : CT K mg C
  isW_ : ∃ f fd, Fun K "is_word" "is_word" sIsWord f fd ∧ mg "is_word" = some (.ref f) ∧ Binds K fd ["word", "size"] []
  allW : ∃ f fd, Fun K "all_words" "all_words" sAllWords f fd ∧ mg "all_words" = some (.ref f) ∧ Binds K fd ["words", "size"] []
  isS : ∃ f fd, Fun K "is_size" "is_size" sIsSize f fd ∧ mg "is_size" = some (.ref f) ∧ Binds K fd ["size"] []
  chS : ∃ f fd, Fun K "check_size" "check_size" sCheckSize f fd ∧ mg "check_size" = some (.ref f) ∧ Binds K fd ["size"] []
  chW : ∃ f fd, Fun K "check_word" "check_word" sCheckWord f fd ∧ mg "check_word" = some (.ref f) ∧ Binds K fd ["word", "size"] []
  asc : ∃ f fd, Fun K "ascending" "ascending" sAsc f fd ∧ mg "ascending" = some (.ref f) ∧ Binds K fd ["words", "size"] []
theorem scInit : FnScope ["self", "rows", "size", "index", "row", "told", "out"] ["self", "rows"] (defScope sInit) := ⟨rfl, rfl, rfl, by decide +kernel, rfl, by decide +kernel, by decide +kernel⟩
theorem ok_init {f C : Addr} {fd : FuncData} (F : Fun K "__init__" "Table.__init__" sInit f fd) (S : Gs K mg C) : FnOk P w K mg base CX0 3 f fd ["self", "rows"] (spInit K C) := by
  obtain ⟨fW, fdW, FW, mW, bW⟩ := S.isW_
  obtain ⟨fA, fdA, FA, mA, bA⟩ := S.allW
  obtain ⟨fI, fdI, FI, mI, bI⟩ := S.isS
  obtain ⟨fC, fdC, FC, mC, bC⟩ := S.chS
  obtain ⟨fS, fdS, FS, mS, bS⟩ := S.asc
  refine F.ok scInit (fun vs H Q E h => ?_) (fun cdv A outer s H vs Q E hr h => ?_)
  · obtain ⟨p, dx, l, ls, G, rfl, _⟩ := h
    rfl
  · obtain ⟨p, dx, l, ls, G, rfl, hp, hdx, hl, hR, g1, g6, gG, k⟩ := h
    have hr1 : Room 1 _ := hr.mono (by decide)
    refine ⟨_, pss_cons (ps_set (i := 2) scInit.nd rfl (Or.inr rfl) (pe_callB call_len_seq (by rfl) S.B.len PySem.boot_len (pa_cons (pv 1) pa_nil)))
      (pss_cons (ps_expr (pe_call (ok_checkSize FC S.T FI mI bI) hr rfl mC FC.kp bC .nil pass0 (pa_cons (pv 2) pa_nil)))
      (pss_cons (ps_for PassesOwn.never rfl (pi_enum (by rfl) S.B.enumerate (pa_cons (pv 1) pa_nil)) (pg_tup (by rfl) (pgs_cons (pg_name (i := 3) scInit.nd rfl (Or.inl rfl)) (pgs_cons (pg_name (i := 4) scInit.nd rfl (Or.inl rfl)) pgs_nil)))
        (pss_one (ps_if (pt_not (pt_val (pe_call (ok_allWords FA S.B FW mW bW) hr rfl mA FA.kp bA .nil pass0 (pa_cons (pv 4) (pa_cons (pv 2) pa_nil))))) (pss_one ps_never) pss_nil)))
      (pss_cons (ps_fld (pv 0) (pv 2) rfl)
      (pss_cons (ps_fld (pv 0) (pe_callTy call_tuple_of (by rfl) S.B.tuple (by decide +kernel) (pa_cons
        (pe_lc (own := [("row", 4)]) (g := gName 4) (tt := tYes) rfl scInit.nd (pi_list (pv 1)) (blkOk_by (own := [("row", 4)]) (N := ["self", "rows", "size", "index", "row", "told", "out"]) (sc := defScope sInit) (by decide +kernel))
          (fun _ _ _ _ _ => pg_name (i := 4) scInit.nd rfl (Or.inl rfl)) (fun _ _ _ _ _ => pts_nil)
          (te := tCB (fun xs H Q => ∃ p ys, xs = [.ref p] ∧ ((SqL K H p ys ∧ ∀ l, H l = none → Q (.ref l) (upd H l (.tup ys))) ∨ (SqT K H p ys ∧ Q (.ref p) H))) (tCons (tCall (spAsc K) [] E0 (tCons (tVar 4) (tCons (tVar 2) tNil))) tNil))
          (fun _ _ _ _ _ => pe_callTy call_tuple_of (by rfl) S.B.tuple (by decide +kernel) (pa_cons (pe_call (ok_asc FS S.B) hr1 rfl mS FS.kp bS .nil pass0 (pa_cons (pv 4) (pa_cons (pv 2) pa_nil))) pa_nil))) pa_nil)) rfl)
      (pss_one (ps_fld (pv 0) (pe_callTy call_tuple_of (by rfl) S.B.tuple (by decide +kernel) (pa_cons
        (pe_lc2 (own := [("told", 5), ("row", 4), ("out", 6)]) (vs1 := [6]) (tt := tYes) (tt1 := tYes) (g := gTup K 2 (gCons (gName 5) (gCons (gName 4) gNil))) (g1 := gName 6) (wi1 := iTup K (tVar 4)) rfl scInit.nd (pi_enumT (by rfl) S.B.enumerate (pa_cons (pe_fld (pv 0) rfl) pa_nil))
          (blkOk_by (own := [("told", 5), ("row", 4), ("out", 6)]) (N := ["self", "rows", "size", "index", "row", "told", "out"]) (sc := defScope sInit) (by decide +kernel)) (by decide)
          (fun _ _ _ _ _ => pg_tup (by rfl) (pgs_cons (pg_name (i := 5) scInit.nd rfl (Or.inl rfl)) (pgs_cons (pg_name (i := 4) scInit.nd rfl (Or.inl rfl)) pgs_nil))) (fun _ _ _ _ _ => pts_nil)
          (fun _ _ _ _ _ => pi_tup (pv 4)) (fun _ _ _ _ _ => pg_name (i := 6) scInit.nd rfl (Or.inl rfl)) (fun _ _ _ _ _ => pts_nil)
          (fun _ _ _ _ _ => pe_tup (pa_cons (pv 5) (pa_cons (pv 6) pa_nil)))) pa_nil)) rfl)))))), ?_⟩
    have el : ls.length = G.length := Paired.length hR
    rw [← el] at g1 g6 gG k
    refine ⟨_, rfl, l, ls, rfl, .inl (SqL.of hl), ?_⟩
    refine ⟨_, rfl, (ls.length : Int), rfl, by omega, by omega, ?_⟩
    refine ⟨_, rfl, l, ls, rfl, SqL.of hl, ?_⟩
    refine for_it (walk_enum (K := K) (a := l) (xs := ls)) (fun i σ H' => ∃ v3 v4, σ = [some (.ref p), some (.ref l), some (.int (ls.length : Int)), v3, v4, none, none] ∧ Same H H') ⟨none, none, rfl, Same.refl H⟩ (fun i σ H' _ ⟨_, _, _, s⟩ => SqL.of (s _ _ hl)) ?_ ?_
    · rintro i x σ H1 H2 hi ⟨v3, v4, rfl, s1⟩ ⟨T, a, b, rfl, hT, rfl, ha, hb⟩
      cases (Option.some.inj ha)
      obtain ⟨g, hg, t, rfl, ht⟩ := L2.Paired.at (RowsL.same s1 hR) hb
      have s2 : Same H (upd H1 T (.tup [.int (i : Nat), .ref t])) := Same.upd s1 hT
      refine ⟨T, _, rfl, SqT.of upd_same, rfl, _, _, rfl, _, _, rfl, rfl, ?_⟩
      have tT : t ≠ T := ne_of_none ht hT
      obtain ⟨gl, ga⟩ := gG g (List.mem_of_getElem? hg)
      refine ⟨_, rfl, _, rfl, t, g, ls.length, rfl, SqL.of (by rw [upd_ne tT]; exact ht), gl, fun H3 s3 => ⟨_, rfl, ?_⟩⟩
      rw [ga]
      exact iteF ⟨_, _, rfl, s2.trans s3⟩
    · rintro σ H1 ⟨v3, v4, rfl, s1⟩
      have hp1 := s1 _ _ hp
      have hdx1 := s1 _ _ hdx
      -- self.size = size
      refine ⟨_, rfl, _, rfl, p, C, dx, [], rfl, hp1, S.T.cl, S.T.nS, (by show 0 < 1000; decide), ?_⟩
      rw [tf_1]
      generalize hHa : upd H1 p (.ins C dx [(("size" : Str), V.int (ls.length : Int))]) = Ha
      have kA : ∀ b o, b ≠ p → H b = some o → Ha b = some o := fun b o ne e => by rw [← hHa, upd_ne ne]; exact s1 _ _ e
      have pA : Ha p = some (.ins C dx [(("size" : Str), V.int (ls.length : Int))]) := by rw [← hHa, upd_same]
      have npl : l ≠ p := ne_of hl hp (fun z => nomatch z)
      have npd : dx ≠ p := ne_of hdx hp (fun z => nomatch z)
      have lA := kA _ _ npl hl
      have RA : RowsL Ha ls G := L2.Paired.mapP hR fun _ _ ⟨t, e, q⟩ => ⟨t, e, kA _ _ (ne_of q hp (fun z => nomatch z)) q⟩
      -- self._rows = tuple([tuple(ascending(row, size)) for row in rows])
      refine ⟨_, rfl, l, rfl, ⟨_, SqL.of lA⟩, fun D hD => ?_⟩
      refine lc_list (K := K) (a := l) (xs := ls) (fun i H' => Same Ha H' ∧ ∃ ts, H' D = some (.lst ts) ∧ RowsT H' ts ((G.take i).map fun g => Toy.asc g ls.length)) ⟨Same.new hD, [], upd_same, .nil⟩ (fun i H' _ ⟨s, _⟩ => SqL.of (s _ _ lA)) ?_ ?_
      · rintro i y H2 hi ⟨s2, ts, hd2, R2⟩
        obtain ⟨g, hg, t, rfl, ht⟩ := L2.Paired.at (RowsL.same s2 RA) hi
        refine ⟨rfl, yesT (iteT ?_)⟩
        refine ⟨_, rfl, _, rfl, t, g, ls.length, rfl, .inl (SqL.of ht), g6, fun H3 q s3 hq0 hq => ?_⟩
        refine ⟨q, _, rfl, .inl ⟨SqL.of hq, fun u hu => ?_⟩⟩
        have hd3 := s3 _ _ hd2
        have nDu : D ≠ u := ne_of_none hd3 hu
        have hd4 : upd H3 u (.tup (vI (Toy.asc g ls.length))) D = some (.lst ts) := by rw [upd_ne nDu]; exact hd3
        refine ⟨ts, hd4, ?_, ?_, ts ++ [.ref u], upd_same, ?_⟩
        · rw [Paired.length R2, List.length_map]
          refine Nat.lt_of_le_of_lt (List.length_take_le' _ _) (Nat.lt_of_le_of_lt (?_ : _ ≤ 6) (by decide))
          omega
        · exact Same.updN (Same.upd (s2.trans s3) hu) hD
        · rw [take_more hg, List.map_append]
          refine L2.Paired.snoc ⟨u, rfl, by rw [upd_ne nDu.symm, upd_same]⟩ ?_
          exact RowsT.updL (RowsT.same ((s3).trans (Same.new hu)) R2) hd4
      · rintro H2 ⟨s2, ts, hd2, R2⟩
        rw [el, List.take_length] at R2
        refine ⟨D, ts, rfl, .inl ⟨SqL.of hd2, fun tr htr => ?_⟩⟩
        have sC : Same Ha (upd H2 tr (.tup ts)) := Same.upd s2 htr
        have R3 : RowsT (upd H2 tr (.tup ts)) ts (G.map fun g => Toy.asc g G.length) := RowsT.same (Same.new htr) R2
        have t3 : (upd H2 tr (.tup ts)) tr = some (.tup ts) := upd_same
        generalize (upd H2 tr (.tup ts)) = Hc at sC R3 t3
        refine ⟨_, rfl, p, C, dx, _, rfl, sC _ _ pA, S.T.cl, S.T.nR, (by show 1 < 1000; decide), ?_⟩
        rw [tf_2]
        rw [el] at k g6 g1
        rw [el] at *
        have kC : ∀ b o, b ≠ p → H b = some o → Hc b = some o := fun b o ne e => sC _ _ (kA b o ne e)
        have pC : ∀ b o, b ≠ p → Hc b = some o → upd Hc p (.ins C dx [(("size" : Str), V.int (G.length : Int)), (("_rows" : Str), V.ref tr)]) b = some o := fun b o ne e => by rw [upd_ne ne]; exact e
        have p0 := sC _ _ pA
        have R4 : RowsT (upd Hc p (.ins C dx [(("size" : Str), V.int (G.length : Int)), (("_rows" : Str), V.ref tr)])) ts (G.map fun g => Toy.asc g G.length) :=
          L2.Paired.mapP R3 fun _ _ ⟨t, e, q⟩ => ⟨t, e, pC _ _ (ne_of q p0 (fun z => nomatch z)) q⟩
        have t4 := pC _ _ (ne_of t3 p0 (fun z => nomatch z)) t3
        have kD : ∀ b o, b ≠ p → H b = some o → upd Hc p (.ins C dx [(("size" : Str), V.int (G.length : Int)), (("_rows" : Str), V.ref tr)]) b = some o := fun b o ne e => pC _ _ ne (kC _ _ ne e)
        have pD : upd Hc p (.ins C dx [(("size" : Str), V.int (G.length : Int)), (("_rows" : Str), V.ref tr)]) p = some (.ins C dx [(("size" : Str), V.int (G.length : Int)), (("_rows" : Str), V.ref tr)]) := upd_same
        generalize upd Hc p (.ins C dx [(("size" : Str), V.int (G.length : Int)), (("_rows" : Str), V.ref tr)]) = Hd at R4 t4 kD pD
        have lkR : List.lookup ("_rows" : Str) ([(("size" : Str), V.int (G.length : Int)), (("_rows" : Str), V.ref tr)] : List (Str × V)) = some (.ref tr) := by
          have h : (("_rows" : Str) == "size") = false := by simpa using rs_
          simp [List.lookup, h]
        -- self._pairs = ..
        have lR : (G.map fun g => Toy.asc g G.length).length = G.length := List.length_map ..
        have r6 : ∀ r ∈ (G.map fun g => Toy.asc g G.length), r.length ≤ 6 := fun r hr => by
          obtain ⟨g, _, rfl⟩ := List.mem_map.mp hr
          exact Nat.le_trans (asc_len _ _) g6
        generalize (G.map fun g => Toy.asc g G.length) = R at k R4 lR r6
        have lts : ts.length = R.length := Paired.length R4
        refine ⟨_, rfl, p, C, dx, _, _, rfl, pD, S.T.cl, S.T.nR, lkR, tr, ts, rfl, SqT.of t4, fun D2 hD2 => ?_⟩
        have nP6 : ∀ i, (prs 0 (R.take i)).length ≤ 36 := fun i => by
          have h1 := prs_len 0 (R.take i) fun r hr => r6 r (List.mem_of_mem_take hr)
          have h2 : (R.take i).length ≤ R.length := List.length_take_le' _ _
          omega
        refine lc2_out (walk_enumT (K := K) (a := tr) (xs := ts)) (fun i H' => Same Hd H' ∧ ∃ qs, H' D2 = some (.lst qs) ∧ PairsT H' qs (prs 0 (R.take i))) ⟨Same.new hD2, [], upd_same, .nil⟩ (fun i H' _ ⟨s, _⟩ => SqT.of (s _ _ t4)) ?_ ?_
        · rintro i x H4 H5 hi ⟨s5, qs, hq, hP⟩ ⟨T, a, b, rfl, hT, rfl, ha, hb⟩
          cases (Option.some.inj ha)
          obtain ⟨r, hr0, t, rfl, ht⟩ := L2.Paired.at (RowsT.same s5 R4) hb
          have r6' := r6 r (List.mem_of_getElem? hr0)
          have nDT : D2 ≠ T := ne_of_none hq hT
          have s6 := Same.new (H := H4) (o := .tup [.int (i : Nat), .ref t]) hT
          refine ⟨T, _, rfl, SqT.of upd_same, rfl, _, _, rfl, _, _, rfl, rfl, ?_⟩
          refine ⟨rfl, yesT (iteT ?_)⟩
          refine ⟨_, rfl, t, rfl, ⟨_, SqT.of (s6 _ _ ht)⟩, ?_⟩
          refine lc2_in (walk_tup (K := K) (a := t) (xs := vI r)) (fun j H' => Same Hd H' ∧ H' t = some (.tup (vI r)) ∧ ∃ qs, H' D2 = some (.lst qs) ∧ PairsT H' qs (prs 0 (R.take i) ++ (r.take j).map fun x => ((i : Int), x))) ?_ (fun j H' _ ⟨_, h, _⟩ => SqT.of h) ?_ ?_
          · refine ⟨s5.trans s6, s6 _ _ ht, qs, s6 _ _ hq, ?_⟩
            rw [List.take_zero, List.map_nil, List.append_nil]
            exact PairsT.same s6 hP
          · rintro j x H6 H7 hj ⟨s7, ht7, qs7, hq7, hP7⟩ ⟨rfl, hx⟩
            obtain ⟨y, hy, rfl⟩ := vI_at hx
            refine ⟨rfl, yesT (iteT ?_)⟩
            refine ⟨_, rfl, _, rfl, (by show 2 ≤ sizeLine; decide), fun u hu => ?_⟩
            have nDu : D2 ≠ u := ne_of_none hq7 hu
            have s8 := Same.new (H := H7) (o := .tup [.int (i : Int), .int y]) hu
            have hq8 := s8 _ _ hq7
            have ntD : t ≠ D2 := ne_of ht7 hq7 (fun z => nomatch z)
            refine ⟨qs7, hq8, ?_, Same.updN (s7.trans s8) hD2, by rw [upd_ne ntD]; exact s8 _ _ ht7, qs7 ++ [.ref u], upd_same, ?_⟩
            · rw [Paired.length hP7, List.length_append, List.length_map]
              have h1 := nP6 i
              have h2 : (r.take j).length ≤ r.length := List.length_take_le' _ _
              exact Nat.lt_of_le_of_lt (by omega : _ ≤ 42) (by decide)
            · rw [take_more hy, List.map_append, ← List.append_assoc]
              refine L2.Paired.snoc ⟨u, rfl, by rw [upd_ne nDu.symm]; exact upd_same⟩ ?_
              exact PairsT.updL (PairsT.same s8 hP7) hq8
          · rintro H6 ⟨s7, ht7, qs7, hq7, hP7⟩
            rw [vI_len, List.take_length] at hP7
            refine ⟨s7, qs7, hq7, ?_⟩
            rw [take_more hr0, prs_snoc]
            have e : (R.take i).length = i := by rw [List.length_take]; have := (List.getElem?_eq_some_iff.mp hr0).1; omega
            rw [e, Nat.zero_add]
            exact hP7
        · rintro H6 ⟨s7, qs, hq, hP⟩
          rw [lts, List.take_length] at hP
          refine ⟨D2, qs, rfl, .inl ⟨SqL.of hq, fun tp htp => ?_⟩⟩
          have sE : Same Hd (upd H6 tp (.tup qs)) := Same.upd s7 htp
          have P3 := PairsT.same (Same.new (H := H6) (o := .tup qs) htp) hP
          have t5 : (upd H6 tp (.tup qs)) tp = some (.tup qs) := upd_same
          generalize (upd H6 tp (.tup qs)) = He at sE P3 t5
          refine ⟨_, rfl, p, C, dx, _, rfl, sE _ _ pD, S.T.cl, S.T.nP, (by show 2 < 1000; decide), ?_⟩
          rw [tf_3]
          have p9 := sE _ _ pD
          refine k _ (fun b o ne e => by rw [upd_ne ne]; exact sE _ _ (kD _ _ ne e)) ⟨dx, tr, tp, ts, qs, by rw [upd_same, lR], ?_, ?_, ?_, ?_, ?_, by omega, by omega, r6⟩
          · rw [upd_ne npd]; exact sE _ _ (kD _ _ npd hdx)
          · rw [upd_ne (ne_of (sE _ _ t4) p9 (fun z => nomatch z))]; exact sE _ _ t4
          · exact L2.Paired.mapP (RowsT.same sE R4) fun _ _ ⟨t, e, q⟩ => ⟨t, e, by rw [upd_ne (ne_of q p9 (fun z => nomatch z))]; exact q⟩
          · rw [upd_ne (ne_of t5 p9 (fun z => nomatch z))]; exact t5
          · exact L2.Paired.mapP P3 fun _ _ ⟨t, e, q⟩ => ⟨t, e, by rw [upd_ne (ne_of q p9 (fun z => nomatch z))]; exact q⟩
end
end Toy
namespace Toy
open PySem PySem.Spec PyProof.Rows L2
/-! ## the program's errors, and the def that asks which one an error is -/
abbrev sSingle : Stmt := topE 44
/-- where the classes stand -/
structure Errs where
  M : Addr
  c0 : Addr
  c1 : Addr
  c2 : Addr
  c3 : Addr
  c4 : Addr
  c5 : Addr
  c6 : Addr
  c7 : Addr
  c8 : Addr
  c9 : Addr
  c10 : Addr
  c11 : Addr
  c12 : Addr
  c13 : Addr
  c14 : Addr
  c15 : Addr
  c16 : Addr
  c17 : Addr
  c18 : Addr
structure ErrG (mg : Str → Option Value) (r : Errs) : Prop where
  m : mg "MurmurError" = some (.ref r.M)
  e0 : mg "BadSize" = some (.ref r.c0)
  e1 : mg "BadTable" = some (.ref r.c1)
  e2 : mg "UnknownWord" = some (.ref r.c2)
  e3 : mg "SizeMismatch" = some (.ref r.c3)
  e4 : mg "BadCount" = some (.ref r.c4)
  e5 : mg "BadPerson" = some (.ref r.c5)
  e6 : mg "BadLetter" = some (.ref r.c6)
  e7 : mg "UnknownPerson" = some (.ref r.c7)
  e8 : mg "TooMany" = some (.ref r.c8)
  e9 : mg "BadPattern" = some (.ref r.c9)
  e10 : mg "SameWord" = some (.ref r.c10)
  e11 : mg "UnknownClue" = some (.ref r.c11)
  e12 : mg "BadPlace" = some (.ref r.c12)
  e13 : mg "TooLong" = some (.ref r.c13)
  e14 : mg "Melted" = some (.ref r.c14)
  e15 : mg "NothingToUndo" = some (.ref r.c15)
  e16 : mg "NothingToRedo" = some (.ref r.c16)
  e17 : mg "Refused" = some (.ref r.c17)
  e18 : mg "BadLine" = some (.ref r.c18)
  v : mg "ValueError" = none
  i : mg "isinstance" = none
  l : mg "len" = none
/-- the errors of the class D are of one class of the program alone -/
structure KitsG (K : PySem.W.Frag) (r : Errs) (D : Addr) : Prop where
  x : ExcC K D
  m : PySem.W.kitOne K (.ref D) (.ref r.M) = some true
  v : PySem.W.kitOne K (.ref D) (.type "ValueError") = some true
  k : ∃ b0 b1 b2 b3 b4 b5 b6 b7 b8 b9 b10 b11 b12 b13 b14 b15 b16 b17 b18 : Bool, PySem.W.kitOne K (.ref D) (.ref r.c0) = some b0 ∧ PySem.W.kitOne K (.ref D) (.ref r.c1) = some b1 ∧ PySem.W.kitOne K (.ref D) (.ref r.c2) = some b2 ∧ PySem.W.kitOne K (.ref D) (.ref r.c3) = some b3 ∧ PySem.W.kitOne K (.ref D) (.ref r.c4) = some b4 ∧ PySem.W.kitOne K (.ref D) (.ref r.c5) = some b5 ∧ PySem.W.kitOne K (.ref D) (.ref r.c6) = some b6 ∧ PySem.W.kitOne K (.ref D) (.ref r.c7) = some b7 ∧ PySem.W.kitOne K (.ref D) (.ref r.c8) = some b8 ∧ PySem.W.kitOne K (.ref D) (.ref r.c9) = some b9 ∧ PySem.W.kitOne K (.ref D) (.ref r.c10) = some b10 ∧ PySem.W.kitOne K (.ref D) (.ref r.c11) = some b11 ∧ PySem.W.kitOne K (.ref D) (.ref r.c12) = some b12 ∧ PySem.W.kitOne K (.ref D) (.ref r.c13) = some b13 ∧ PySem.W.kitOne K (.ref D) (.ref r.c14) = some b14 ∧ PySem.W.kitOne K (.ref D) (.ref r.c15) = some b15 ∧ PySem.W.kitOne K (.ref D) (.ref r.c16) = some b16 ∧ PySem.W.kitOne K (.ref D) (.ref r.c17) = some b17 ∧ PySem.W.kitOne K (.ref D) (.ref r.c18) = some b18 ∧ ([b0, b1, b2, b3, b4, b5, b6, b7, b8, b9, b10, b11, b12, b13, b14, b15, b16, b17, b18].filter id).length = 1
def spSingle (K : PySem.W.Frag) (r : Errs) : Addr × Obj → Sp := fun p vs H Q _ => ∃ (D dd : Addr) (fs : List (Str × V)), vs = [.ref p.1] ∧ KitsG K r D ∧ Zc (.ref D) (some dd) p.2 ∧ (∃ vs, p.2.data = .fields vs) ∧ H dd = some (.xd fs) ∧ ∀ H', Same H H' → Q (.bl true) H'
abbrev NSi : List Str := ["_law_e", "_law_kinds", "_law_kind"]
theorem scSingle : FnScope NSi ["_law_e"] (defScope sSingle) := ⟨rfl, rfl, rfl, by decide +kernel, rfl, by decide +kernel, by decide +kernel⟩
theorem bl_at {bs : List Bool} {i : Nat} {y : V} (h : (bs.map V.bl)[i]? = some y) : ∃ b, bs[i]? = some b ∧ y = .bl b := by
  rw [List.getElem?_map] at h
  cases e : bs[i]? with
  | none => rw [e] at h; cases h
  | some b => rw [e] at h; exact ⟨b, rfl, (Option.some.inj h).symm⟩
theorem ones_more {bs : List Bool} {i : Nat} {b : Bool} (h : bs[i]? = some b) : List.replicate ((bs.take (i + 1)).filter id).length (V.int 1) = List.replicate ((bs.take i).filter id).length (V.int 1) ++ (if b = true then [V.int 1] else []) := by
  rw [take_more h, List.filter_append]
  cases b with
  | false => simp
  | true => simp [List.replicate_succ']
section
variable {P : Program} {w : World} {K : PySem.W.Frag} {mg : Str → Option Value} {base : Heap}
theorem ok_single {f : Addr} {r : Errs} {fd : FuncData} (F : Fun K "_law_single" "_law_single" sSingle f fd) (G : ErrG mg r) : FnE P w K mg base 1 f fd ["_law_e"] (spSingle K r) := by
  have ⟨oc, od, kV, doc, pm, an, cdv, ct, osl, e, lk, hcd⟩ := F.ex
  subst e
  refine fn_ofE lk hcd scSingle (fun p vs H Q E h => ?_) (fun p A outer s H vs Q hot room h => ?_)
  · obtain ⟨D, dd, fs, rfl, _⟩ := h
    rfl
  · obtain ⟨D, dd, fs, rfl, kg, hz, hf, hdd, k⟩ := h
    have isx : ∀ {x1 : Str} {t1 : TE} {q1 q2 q3 q4 : Pos}, PE (L2H.cxH CX0 P w K mg base NSi "_law_single" (defScope sSingle) f cdv A outer s H E0 p) (.Name x1 q4) t1 → PE (L2H.cxH CX0 P w K mg base NSi "_law_single" (defScope sSingle) f cdv A outer s H E0 p) (.Call (.Name "isinstance" q1) [.Name "_law_e" q2, .Name x1 q4] [] q3) (tCB (rIsEx K p) (tCons (tVar 0) (tCons t1 tNil))) :=
      fun h1 => pe_callB (call_isEx (List.mem_singleton.mpr rfl)) (by rfl) G.i (by decide +kernel) (pa_cons (pv 0) (pa_cons h1 pa_nil))
    refine ⟨_, (pss_cons (ps_set (i := 1) scSingle.nd rfl (Or.inl rfl) (pe_lst (pa_cons (isx (pe_glob rfl G.e0 (v := .ref r.c0) rfl)) (pa_cons (isx (pe_glob rfl G.e1 (v := .ref r.c1) rfl)) (pa_cons (isx (pe_glob rfl G.e2 (v := .ref r.c2) rfl)) (pa_cons (isx (pe_glob rfl G.e3 (v := .ref r.c3) rfl)) pa_nil))))))
      (pss_cons (ps_set (i := 1) scSingle.nd rfl (Or.inl rfl) (pe_op op_cat (pv 1) (pe_lst (pa_cons (isx (pe_glob rfl G.e4 (v := .ref r.c4) rfl)) (pa_cons (isx (pe_glob rfl G.e5 (v := .ref r.c5) rfl)) (pa_cons (isx (pe_glob rfl G.e6 (v := .ref r.c6) rfl)) pa_nil))))))
      (pss_cons (ps_set (i := 1) scSingle.nd rfl (Or.inl rfl) (pe_op op_cat (pv 1) (pe_lst (pa_cons (isx (pe_glob rfl G.e7 (v := .ref r.c7) rfl)) (pa_cons (isx (pe_glob rfl G.e8 (v := .ref r.c8) rfl)) (pa_cons (isx (pe_glob rfl G.e9 (v := .ref r.c9) rfl)) pa_nil))))))
      (pss_cons (ps_set (i := 1) scSingle.nd rfl (Or.inl rfl) (pe_op op_cat (pv 1) (pe_lst (pa_cons (isx (pe_glob rfl G.e10 (v := .ref r.c10) rfl)) (pa_cons (isx (pe_glob rfl G.e11 (v := .ref r.c11) rfl)) (pa_cons (isx (pe_glob rfl G.e12 (v := .ref r.c12) rfl)) pa_nil))))))
      (pss_cons (ps_set (i := 1) scSingle.nd rfl (Or.inl rfl) (pe_op op_cat (pv 1) (pe_lst (pa_cons (isx (pe_glob rfl G.e13 (v := .ref r.c13) rfl)) (pa_cons (isx (pe_glob rfl G.e14 (v := .ref r.c14) rfl)) (pa_cons (isx (pe_glob rfl G.e15 (v := .ref r.c15) rfl)) pa_nil))))))
      (pss_cons (ps_set (i := 1) scSingle.nd rfl (Or.inl rfl) (pe_op op_cat (pv 1) (pe_lst (pa_cons (isx (pe_glob rfl G.e16 (v := .ref r.c16) rfl)) (pa_cons (isx (pe_glob rfl G.e17 (v := .ref r.c17) rfl)) (pa_cons (isx (pe_glob rfl G.e18 (v := .ref r.c18) rfl)) pa_nil))))))
      (pss_one (ps_ret (pe_and (isx (pe_glob rfl G.m (v := .ref r.M) rfl)) (pe_and (isx (pe_bltn (by rfl) G.v (by decide +kernel) (v := .ty "ValueError") (u := .type "ValueError") rfl)) (pe_one (pe_cmpR op_eq (pe_callB call_len_seq (by rfl) G.l PySem.boot_len (pa_cons (pe_lcH (own := [("_law_kind", 2)]) (g := gName 2) (tt := tTest (tVar 2)) ⟨p, hot, List.mem_singleton.mpr rfl⟩ scSingle.nd (pv 1) (blkOk_by (own := [("_law_kind", 2)]) (N := NSi) (sc := defScope sSingle) (by decide +kernel)) (fun _ _ _ _ _ => pg_name (i := 2) scSingle.nd rfl (Or.inl rfl)) (fun _ _ _ _ _ => pts_one (pt_val (pv 2))) (fun _ _ _ _ _ => pe_int)) pa_nil)) pe_int (nomark _))))))))))))), ?_⟩
    obtain ⟨b0, b1, b2, b3, b4, b5, b6, b7, b8, b9, b10, b11, b12, b13, b14, b15, b16, b17, b18, h0, h1, h2, h3, h4, h5, h6, h7, h8, h9, h10, h11, h12, h13, h14, h15, h16, h17, h18, one⟩ := kg.k
    refine ⟨_, rfl, D, _, .ref r.c0, b0, dd, fs, rfl, fun u h => h, kg.x, hz, hf, hdd, h0, ⟨_, rfl, D, _, .ref r.c1, b1, dd, fs, rfl, fun u h => h, kg.x, hz, hf, hdd, h1, ⟨_, rfl, D, _, .ref r.c2, b2, dd, fs, rfl, fun u h => h, kg.x, hz, hf, hdd, h2, ⟨_, rfl, D, _, .ref r.c3, b3, dd, fs, rfl, fun u h => h, kg.x, hz, hf, hdd, h3, by show 4 ≤ sizeLine; decide, fun l0 n0 => ?_⟩⟩⟩⟩
    have k0 := Same.new (H := H) (o := .lst [.bl b0, .bl b1, .bl b2, .bl b3]) n0
    have a0 : upd H l0 (.lst [.bl b0, .bl b1, .bl b2, .bl b3]) l0 = some (.lst [.bl b0, .bl b1, .bl b2, .bl b3]) := upd_same
    generalize upd H l0 (.lst [.bl b0, .bl b1, .bl b2, .bl b3]) = H0 at k0 a0 ⊢
    have d0 := k0 _ _ hdd
    refine ⟨_, rfl, ?_⟩
    refine ⟨_, rfl, D, _, .ref r.c4, b4, dd, fs, rfl, fun u h => h, kg.x, hz, hf, d0, h4, ⟨_, rfl, D, _, .ref r.c5, b5, dd, fs, rfl, fun u h => h, kg.x, hz, hf, d0, h5, ⟨_, rfl, D, _, .ref r.c6, b6, dd, fs, rfl, fun u h => h, kg.x, hz, hf, d0, h6, by show 3 ≤ sizeLine; decide, fun m1 n1 => ?_⟩⟩⟩
    have a0' := Same.new (H := H0) (o := .lst [.bl b4, .bl b5, .bl b6]) n1 _ _ a0
    refine ⟨_, _, _, _, rfl, rfl, a0', upd_same, by show 4 + 3 ≤ sizeLine; decide, fun l1 x1 => ?_⟩
    have k1 := k0.trans ((Same.new (H := H0) (o := .lst [.bl b4, .bl b5, .bl b6]) n1).trans (Same.new (o := .lst ([.bl b0, .bl b1, .bl b2, .bl b3] ++ [.bl b4, .bl b5, .bl b6])) x1))
    have a1 : upd (upd H0 m1 (.lst [.bl b4, .bl b5, .bl b6])) l1 (.lst ([.bl b0, .bl b1, .bl b2, .bl b3] ++ [.bl b4, .bl b5, .bl b6])) l1 = some (.lst [.bl b0, .bl b1, .bl b2, .bl b3, .bl b4, .bl b5, .bl b6]) := upd_same
    generalize upd (upd H0 m1 (.lst [.bl b4, .bl b5, .bl b6])) l1 (.lst ([.bl b0, .bl b1, .bl b2, .bl b3] ++ [.bl b4, .bl b5, .bl b6])) = H1 at k1 a1 ⊢
    have d1 := k1 _ _ hdd
    refine ⟨_, rfl, ?_⟩
    refine ⟨_, rfl, D, _, .ref r.c7, b7, dd, fs, rfl, fun u h => h, kg.x, hz, hf, d1, h7, ⟨_, rfl, D, _, .ref r.c8, b8, dd, fs, rfl, fun u h => h, kg.x, hz, hf, d1, h8, ⟨_, rfl, D, _, .ref r.c9, b9, dd, fs, rfl, fun u h => h, kg.x, hz, hf, d1, h9, by show 3 ≤ sizeLine; decide, fun m2 n2 => ?_⟩⟩⟩
    have a1' := Same.new (H := H1) (o := .lst [.bl b7, .bl b8, .bl b9]) n2 _ _ a1
    refine ⟨_, _, _, _, rfl, rfl, a1', upd_same, by show 7 + 3 ≤ sizeLine; decide, fun l2 x2 => ?_⟩
    have k2 := k1.trans ((Same.new (H := H1) (o := .lst [.bl b7, .bl b8, .bl b9]) n2).trans (Same.new (o := .lst ([.bl b0, .bl b1, .bl b2, .bl b3, .bl b4, .bl b5, .bl b6] ++ [.bl b7, .bl b8, .bl b9])) x2))
    have a2 : upd (upd H1 m2 (.lst [.bl b7, .bl b8, .bl b9])) l2 (.lst ([.bl b0, .bl b1, .bl b2, .bl b3, .bl b4, .bl b5, .bl b6] ++ [.bl b7, .bl b8, .bl b9])) l2 = some (.lst [.bl b0, .bl b1, .bl b2, .bl b3, .bl b4, .bl b5, .bl b6, .bl b7, .bl b8, .bl b9]) := upd_same
    generalize upd (upd H1 m2 (.lst [.bl b7, .bl b8, .bl b9])) l2 (.lst ([.bl b0, .bl b1, .bl b2, .bl b3, .bl b4, .bl b5, .bl b6] ++ [.bl b7, .bl b8, .bl b9])) = H2 at k2 a2 ⊢
    have d2 := k2 _ _ hdd
    refine ⟨_, rfl, ?_⟩
    refine ⟨_, rfl, D, _, .ref r.c10, b10, dd, fs, rfl, fun u h => h, kg.x, hz, hf, d2, h10, ⟨_, rfl, D, _, .ref r.c11, b11, dd, fs, rfl, fun u h => h, kg.x, hz, hf, d2, h11, ⟨_, rfl, D, _, .ref r.c12, b12, dd, fs, rfl, fun u h => h, kg.x, hz, hf, d2, h12, by show 3 ≤ sizeLine; decide, fun m3 n3 => ?_⟩⟩⟩
    have a2' := Same.new (H := H2) (o := .lst [.bl b10, .bl b11, .bl b12]) n3 _ _ a2
    refine ⟨_, _, _, _, rfl, rfl, a2', upd_same, by show 10 + 3 ≤ sizeLine; decide, fun l3 x3 => ?_⟩
    have k3 := k2.trans ((Same.new (H := H2) (o := .lst [.bl b10, .bl b11, .bl b12]) n3).trans (Same.new (o := .lst ([.bl b0, .bl b1, .bl b2, .bl b3, .bl b4, .bl b5, .bl b6, .bl b7, .bl b8, .bl b9] ++ [.bl b10, .bl b11, .bl b12])) x3))
    have a3 : upd (upd H2 m3 (.lst [.bl b10, .bl b11, .bl b12])) l3 (.lst ([.bl b0, .bl b1, .bl b2, .bl b3, .bl b4, .bl b5, .bl b6, .bl b7, .bl b8, .bl b9] ++ [.bl b10, .bl b11, .bl b12])) l3 = some (.lst [.bl b0, .bl b1, .bl b2, .bl b3, .bl b4, .bl b5, .bl b6, .bl b7, .bl b8, .bl b9, .bl b10, .bl b11, .bl b12]) := upd_same
    generalize upd (upd H2 m3 (.lst [.bl b10, .bl b11, .bl b12])) l3 (.lst ([.bl b0, .bl b1, .bl b2, .bl b3, .bl b4, .bl b5, .bl b6, .bl b7, .bl b8, .bl b9] ++ [.bl b10, .bl b11, .bl b12])) = H3 at k3 a3 ⊢
    have d3 := k3 _ _ hdd
    refine ⟨_, rfl, ?_⟩
    refine ⟨_, rfl, D, _, .ref r.c13, b13, dd, fs, rfl, fun u h => h, kg.x, hz, hf, d3, h13, ⟨_, rfl, D, _, .ref r.c14, b14, dd, fs, rfl, fun u h => h, kg.x, hz, hf, d3, h14, ⟨_, rfl, D, _, .ref r.c15, b15, dd, fs, rfl, fun u h => h, kg.x, hz, hf, d3, h15, by show 3 ≤ sizeLine; decide, fun m4 n4 => ?_⟩⟩⟩
    have a3' := Same.new (H := H3) (o := .lst [.bl b13, .bl b14, .bl b15]) n4 _ _ a3
    refine ⟨_, _, _, _, rfl, rfl, a3', upd_same, by show 13 + 3 ≤ sizeLine; decide, fun l4 x4 => ?_⟩
    have k4 := k3.trans ((Same.new (H := H3) (o := .lst [.bl b13, .bl b14, .bl b15]) n4).trans (Same.new (o := .lst ([.bl b0, .bl b1, .bl b2, .bl b3, .bl b4, .bl b5, .bl b6, .bl b7, .bl b8, .bl b9, .bl b10, .bl b11, .bl b12] ++ [.bl b13, .bl b14, .bl b15])) x4))
    have a4 : upd (upd H3 m4 (.lst [.bl b13, .bl b14, .bl b15])) l4 (.lst ([.bl b0, .bl b1, .bl b2, .bl b3, .bl b4, .bl b5, .bl b6, .bl b7, .bl b8, .bl b9, .bl b10, .bl b11, .bl b12] ++ [.bl b13, .bl b14, .bl b15])) l4 = some (.lst [.bl b0, .bl b1, .bl b2, .bl b3, .bl b4, .bl b5, .bl b6, .bl b7, .bl b8, .bl b9, .bl b10, .bl b11, .bl b12, .bl b13, .bl b14, .bl b15]) := upd_same
    generalize upd (upd H3 m4 (.lst [.bl b13, .bl b14, .bl b15])) l4 (.lst ([.bl b0, .bl b1, .bl b2, .bl b3, .bl b4, .bl b5, .bl b6, .bl b7, .bl b8, .bl b9, .bl b10, .bl b11, .bl b12] ++ [.bl b13, .bl b14, .bl b15])) = H4 at k4 a4 ⊢
    have d4 := k4 _ _ hdd
    refine ⟨_, rfl, ?_⟩
    refine ⟨_, rfl, D, _, .ref r.c16, b16, dd, fs, rfl, fun u h => h, kg.x, hz, hf, d4, h16, ⟨_, rfl, D, _, .ref r.c17, b17, dd, fs, rfl, fun u h => h, kg.x, hz, hf, d4, h17, ⟨_, rfl, D, _, .ref r.c18, b18, dd, fs, rfl, fun u h => h, kg.x, hz, hf, d4, h18, by show 3 ≤ sizeLine; decide, fun m5 n5 => ?_⟩⟩⟩
    have a4' := Same.new (H := H4) (o := .lst [.bl b16, .bl b17, .bl b18]) n5 _ _ a4
    refine ⟨_, _, _, _, rfl, rfl, a4', upd_same, by show 16 + 3 ≤ sizeLine; decide, fun l5 x5 => ?_⟩
    have k5 := k4.trans ((Same.new (H := H4) (o := .lst [.bl b16, .bl b17, .bl b18]) n5).trans (Same.new (o := .lst ([.bl b0, .bl b1, .bl b2, .bl b3, .bl b4, .bl b5, .bl b6, .bl b7, .bl b8, .bl b9, .bl b10, .bl b11, .bl b12, .bl b13, .bl b14, .bl b15] ++ [.bl b16, .bl b17, .bl b18])) x5))
    have a5 : upd (upd H4 m5 (.lst [.bl b16, .bl b17, .bl b18])) l5 (.lst ([.bl b0, .bl b1, .bl b2, .bl b3, .bl b4, .bl b5, .bl b6, .bl b7, .bl b8, .bl b9, .bl b10, .bl b11, .bl b12, .bl b13, .bl b14, .bl b15] ++ [.bl b16, .bl b17, .bl b18])) l5 = some (.lst [.bl b0, .bl b1, .bl b2, .bl b3, .bl b4, .bl b5, .bl b6, .bl b7, .bl b8, .bl b9, .bl b10, .bl b11, .bl b12, .bl b13, .bl b14, .bl b15, .bl b16, .bl b17, .bl b18]) := upd_same
    generalize upd (upd H4 m5 (.lst [.bl b16, .bl b17, .bl b18])) l5 (.lst ([.bl b0, .bl b1, .bl b2, .bl b3, .bl b4, .bl b5, .bl b6, .bl b7, .bl b8, .bl b9, .bl b10, .bl b11, .bl b12, .bl b13, .bl b14, .bl b15] ++ [.bl b16, .bl b17, .bl b18])) = H5 at k5 a5 ⊢
    have d5 := k5 _ _ hdd
    refine ⟨_, rfl, D, _, .ref r.M, true, dd, fs, rfl, fun u h => h, kg.x, hz, hf, d5, kg.m, true, rfl, ?_⟩
    refine ⟨_, rfl, D, _, .type "ValueError", true, dd, fs, rfl, fun u h => h, kg.x, hz, hf, d5, kg.v, true, rfl, ?_⟩
    refine ⟨_, rfl, l5, rfl, ⟨_, SqL.of a5⟩, fun D1 nD => ?_⟩
    have e5 : ([.bl b0, .bl b1, .bl b2, .bl b3, .bl b4, .bl b5, .bl b6, .bl b7, .bl b8, .bl b9, .bl b10, .bl b11, .bl b12, .bl b13, .bl b14, .bl b15, .bl b16, .bl b17, .bl b18] : List V) = [b0, b1, b2, b3, b4, b5, b6, b7, b8, b9, b10, b11, b12, b13, b14, b15, b16, b17, b18].map V.bl := rfl
    rw [e5] at a5
    have el19 : ([b0, b1, b2, b3, b4, b5, b6, b7, b8, b9, b10, b11, b12, b13, b14, b15, b16, b17, b18] : List Bool).length = 19 := rfl
    generalize [b0, b1, b2, b3, b4, b5, b6, b7, b8, b9, b10, b11, b12, b13, b14, b15, b16, b17, b18] = bs at a5 one el19
    refine lc_list (K := K) (a := l5) (xs := bs.map V.bl) (fun i H' => Same H5 H' ∧ H' D1 = some (.lst (List.replicate ((bs.take i).filter id).length (V.int 1)))) ⟨Same.new nD, upd_same⟩ (fun i H' _ ⟨s, _⟩ => SqL.of (s _ _ a5)) ?_ ?_
    · rintro i y H6 hi ⟨s6, hd⟩
      obtain ⟨b, hb, rfl⟩ := bl_at hi
      refine ⟨rfl, ?_⟩
      refine ⟨_, rfl, b, rfl, ?_⟩
      cases b with
      | false =>
        refine iteF ⟨s6, ?_⟩
        rw [ones_more hb, if_neg Bool.false_ne_true, List.append_nil]
        exact hd
      | true =>
        refine iteT ⟨_, hd, ?_, Same.updN s6 nD, ?_⟩
        · rw [List.length_replicate]
          have h1 : ((bs.take i).filter id).length ≤ (bs.take i).length := List.length_filter_le _ _
          have h2 : (bs.take i).length ≤ bs.length := List.length_take_le' _ _
          exact Nat.lt_of_le_of_lt (by omega : _ ≤ 19) (by decide)
        · rw [upd_same, ones_more hb, if_pos rfl]
    · rintro H6 ⟨s6, hd⟩
      have el : (bs.map V.bl).length = bs.length := List.length_map ..
      rw [el, List.take_length, one] at hd
      exact ⟨D1, _, rfl, .inl (SqL.of hd), rfl, k H6 (k5.trans s6)⟩
end
end Toy
namespace Toy
open PySem PySem.Spec PyProof.Rows L2
/-- what the written part says of an error's class, for an except clause and for its attributes -/
structure ErX (P : Program) (K : PySem.W.Frag) (mg : Str → Option Value) (r : Errs) (x : Str) (flds : List Str) (C : Addr) : Prop where
  er : Er P K mg x flds C
  kit : KitsG K r C
  no : ∀ n ∈ flds, PySem.W.findIn K (.ref C) n = some none
theorem ErX.xf {P : Program} {K : PySem.W.Frag} {mg : Str → Option Value} {r : Errs} {x : Str} {flds : List Str} {C : Addr} (e : ErX P K mg r x flds C) : XfC K C := ⟨e.kit.x.hg, e.kit.x.hk, e.kit.x.hs, e.kit.x.hd⟩
/-- the suite asks which error it holds -/
def tSing (K : PySem.W.Frag) (r : Errs) (a : Addr) (cls : Value) (d : Option Addr) (i : Nat) : TE := fun σ H Q => σ[i]? = some (some (V.ref a)) ∧ ∃ (D dd : Addr) (fs : List (Str × V)), cls = .ref D ∧ d = some dd ∧ KitsG K r D ∧ H dd = some (.xd fs) ∧ ∀ H', Same H H' → Q (.bl true) H'
section
variable {X : Cx} {r : Errs} {a f : Addr} {oe : Obj} {cls : Value} {d : Option Addr} {pn : List (Addr × Obj)} {fd : FuncData} {q q2 q3 : Pos} {x : Str} {k : Nat}
theorem pe_single (i : Nat) (F : FnE X.prog X.w X.K X.mg X.base 1 f fd ["_law_e"] (spSingle X.K r)) (hr : Room 1 X.A) (hz : L2N.Zn cls d oe) (hf : ∃ vs, oe.data = .fields vs) (hm : X.mg "_law_single" = some (.ref f)) (hk : PySem.W.keepIn X.K (.ref f) = true) (hb : Binds X.K fd ["_law_e"] [])
    (hg : Gl (X.suite a ((a, oe) :: pn)) "_law_single" := by rfl) (hN : X.N[i]? = some x := by rfl) (hv : Vis X.env.scope x := by first | exact Or.inl rfl | exact Or.inr (Or.inl rfl)) (n1 : (x == ("__debug__" : Str)) = false := by decide) (n2 : (x == ("__classdict__" : Str)) = false := by decide)
    (he : starEach [.Name x q2] X.env = (false, eval (.Name x q2) X.env) :: starEach [] X.env := by rfl) (hpl : (backTo q3 (starEach [] X.env)).any (·.1) = false := by rfl) :
    PE (X.suite a ((a, oe) :: pn)) (.Call (.Name "_law_single" q) [.Name x q2] [] q3) (tSing X.K r a cls d i) := by
  have ⟨vs, ev⟩ := hf
  have hot : L2H.Hot1 (X.suite a ((a, oe) :: pn)).A (a, oe) := ⟨rfl, vs, ev, hz.2.2 vs ev⟩
  have room : L2H.RoomH 1 (X.suite a ((a, oe) :: pn)).A := ⟨hr.dp, hr.un⟩
  have R := pe_callE (X := X.suite a ((a, oe) :: pn)) (pos := q3) (q := q) F room hot List.mem_cons_self hg hm hk hb (pa_cons (e := .Name x q2) (es := []) (pe_var (X := X.suite a ((a, oe) :: pn)) (i := i) hN hv n1 n2) pa_nil) (by decide) he hpl
  refine ⟨fun pins s σ H Q I h => R.run pins s σ H Q I ?_⟩
  have ⟨h1, D, dd, fs, ec, ed, kg, hdd, h2⟩ := h
  refine ⟨_, h1, D, dd, fs, rfl, kg, ?_, hf, hdd, h2⟩
  rw [← ec, ← ed]
  exact hz.zc
end
/-- a new list of these -/
def NewL (H : Hp) (Q : VK) (xs : List V) : Prop := ∀ H' q, Same H H' → H q = none → H' q = some (.lst xs) → Q (.ref q) H'
/-- what an error helper of a law rests on -/
structure Hk (P : Program) (K : PySem.W.Frag) (mg : Str → Option Value) (r : Errs) : Prop where
  G : ErrG mg r
  single : ∃ f fd, Fun K "_law_single" "_law_single" sSingle f fd ∧ mg "_law_single" = some (.ref f) ∧ Binds K fd ["_law_e"] []
end Toy
namespace Toy
open PySem L2
abbrev sRows : Stmt := inClass sTable 6
/-- new lists -/
abbrev RowsN (H0 H : Hp) (ls : List V) (R : List (List Int)) : Prop := Paired (fun v r => ∃ t, v = V.ref t ∧ H t = some (.lst (vI r)) ∧ H0 t = none) ls R
def spRows (C : Addr) : Sp := fun vs H Q _ => ∃ (p : Addr) (R : List (List Int)), vs = [.ref p] ∧ Tab C H p R ∧ ∀ H' l ls, Same H H' → H l = none → H' l = some (.lst ls) → RowsN H H' ls R → Q (.ref l) H'
section
variable {P : Program} {w : World} {K : PySem.W.Frag} {mg : Str → Option Value} {base : Heap}
theorem scRows : FnScope ["self", "row"] ["self"] (defScope sRows) := ⟨rfl, rfl, rfl, by decide +kernel, rfl, by decide +kernel, by decide +kernel⟩
theorem ok_rows {f C : Addr} {fd : FuncData} (F : Fun K "rows" "Table.rows" sRows f fd) (S : Gs K mg C) : FnOk P w K mg base CX0 1 f fd ["self"] (spRows C) := by
  refine F.ok scRows (fun vs H Q E h => ?_) (fun cdv A outer s H vs Q E hr h => ?_)
  · obtain ⟨p, R, rfl, _⟩ := h
    rfl
  · obtain ⟨p, R, rfl, hT, k⟩ := h
    obtain ⟨dx, tr, tp, ts, qs, h1, h2, h3, h4, h5, h6, h7, h8, h9⟩ := id hT
    refine ⟨_, pss_one (ps_ret (pe_lc (own := [("row", 1)]) (g := gName 1) (tt := tYes) rfl scRows.nd (pi_tup (pe_fld (pv 0) rfl)) (blkOk_by (own := [("row", 1)]) (N := ["self", "row"]) (sc := defScope sRows) (by decide +kernel))
          (fun _ _ _ _ _ => pg_name (i := 1) scRows.nd rfl (Or.inl rfl)) (fun _ _ _ _ _ => pts_nil)
          (te := tCB (fun xs H Q => ∃ p ys, xs = [.ref p] ∧ (SqL K H p ys ∨ SqT K H p ys) ∧ ∀ l, H l = none → Q (.ref l) (upd H l (.lst ys))) (tCons (tVar 1) tNil))
          (fun _ _ _ _ _ => pe_callTy call_list_of (by rfl) S.B.list (by decide +kernel) (pa_cons (pv 1) pa_nil)))), ?_⟩
    refine ⟨_, rfl, p, C, dx, _, _, rfl, h1, S.T.cl, S.T.nR, tf_rows _ _ _, ?_⟩
    refine ⟨tr, rfl, ⟨_, SqT.of h3⟩, fun D hD => ?_⟩
    refine lc_tup (K := K) (a := tr) (xs := ts) (fun i H' => Same H H' ∧ ∃ ls, H' D = some (.lst ls) ∧ RowsN H H' ls (R.take i) ∧ ∀ v ∈ ls, v ≠ .ref D) ⟨Same.new hD, [], upd_same, .nil, fun _ h => nomatch h⟩ (fun i H' _ ⟨s, _⟩ => SqT.of (s _ _ h3)) ?_ ?_
    · rintro i y H2 hi ⟨s2, ls, hd2, R2, nD⟩
      obtain ⟨r, hr0, t, rfl, ht⟩ := L2.Paired.at (RowsT.same s2 h4) hi
      refine ⟨rfl, yesT (iteT ?_)⟩
      refine ⟨_, rfl, t, _, rfl, .inr (SqT.of ht), fun u hu => ?_⟩
      have nDu : D ≠ u := ne_of_none hd2 hu
      have s3 := Same.new (H := H2) (o := .lst (vI r)) hu
      refine ⟨ls, s3 _ _ hd2, ?_, Same.updN (s2.trans s3) hD, ls ++ [.ref u], upd_same, ?_, ?_⟩
      · rw [Paired.length R2]
        exact Nat.lt_of_le_of_lt (List.length_take_le' _ _) (Nat.lt_of_le_of_lt h8 (by decide))
      · rw [take_more hr0]
        refine L2.Paired.snoc ⟨u, rfl, by rw [upd_ne nDu.symm]; exact upd_same, s2.free hu⟩ ?_
        refine PairedIn.map R2 fun v r' hv ⟨t', e, q, z⟩ => ⟨t', e, ?_, z⟩
        have nt : t' ≠ D := fun z => nD v hv (by rw [e, z])
        rw [upd_ne nt]
        exact s3 _ _ q
      · intro v hv
        rcases List.mem_append.mp hv with hv | hv
        · exact nD v hv
        · rw [List.mem_singleton.mp hv]
          exact fun z => nDu (V.ref.inj z).symm
    · rintro H2 ⟨s2, ls, hd2, R2, _⟩
      rw [Paired.length h4, List.take_length] at R2
      exact k H2 D ls s2 hD hd2 R2
end
end Toy
namespace Toy
open PySem L2
/-! ### the box -/
def off (b : Addr) (H : Hp) : Hp := fun a => if a = b then none else H a
theorem off_ne {b a : Addr} {H : Hp} (h : a ≠ b) : off b H a = H a := by unfold off; rw [if_neg h]
theorem off_at {b : Addr} {H : Hp} : off b H b = none := by unfold off; rw [if_pos rfl]
theorem off_le {b : Addr} {H : Hp} : Same (off b H) H := fun a o e => by
  by_cases h : a = b
  · rw [h, off_at] at e
    cases e
  · rw [off_ne h] at e
    exact e
theorem off_ne_of {b a : Addr} {H : Hp} {o : HO} (e : off b H a = some o) : a ≠ b := fun z => by
  rw [z, off_at] at e
  cases e
theorem off_upd {b : Addr} {H : Hp} {o : HO} : off b (upd H b o) = off b H := by
  funext a
  by_cases h : a = b
  · rw [h, off_at, off_at]
  · rw [off_ne h, off_ne h, upd_ne h]
theorem off_updN {b p : Addr} {H : Hp} {o : HO} (h : p ≠ b) : off b (upd H p o) = upd (off b H) p o := by
  funext a
  by_cases h1 : a = b
  · rw [h1, off_at, upd_ne (Ne.symm h), off_at]
  · rw [off_ne h1]
    by_cases h2 : a = p
    · rw [h2, upd_same, upd_same]
    · rw [upd_ne h2, upd_ne h2, off_ne h1]
theorem Same.off {b : Addr} {H H' : Hp} (s : Same H H') : Same (Toy.off b H) (Toy.off b H') := fun a o e => by
  have n := off_ne_of e
  rw [off_ne n] at e ⊢
  exact s _ _ e
def BoxAt (H : Hp) (b c : Addr) : Prop := ∃ (cs : List Int) (i pend st : Int), H b = some (.lst [.ref c, .int i, .int pend, .int st]) ∧ H c = some (.lst (vI cs)) ∧ c ≠ b ∧ 0 ≤ i ∧ 0 ≤ pend ∧ 0 ≤ st ∧ st < 2147483647 ∧ ∀ x ∈ cs, 0 ≤ x
theorem BoxAt.same {H H' : Hp} {b c : Addr} (s : Same H H') (h : BoxAt H b c) : BoxAt H' b c := by
  obtain ⟨cs, i, p, st, h1, h2, h3⟩ := h
  exact ⟨cs, i, p, st, s _ _ h1, s _ _ h2, h3⟩
theorem BoxAt.upd {H : Hp} {b c l : Addr} {o : HO} (h : BoxAt H b c) (n : l ≠ b) (n' : l ≠ c) : BoxAt (L2.upd H l o) b c := by
  obtain ⟨cs, i, p, st, h1, h2, h3⟩ := h
  exact ⟨cs, i, p, st, by rw [upd_ne (Ne.symm n)]; exact h1, by rw [upd_ne (Ne.symm n')]; exact h2, h3⟩
theorem BoxAt.nec {H : Hp} {b c p : Addr} (h : BoxAt H b c) (n : H p = none) : p ≠ c := by
  obtain ⟨cs, i, p, st, h1, h2, h3⟩ := h
  exact (ne_of_none h2 n).symm
theorem BoxAt.ne {H : Hp} {b c p : Addr} (h : BoxAt H b c) (n : H p = none) : p ≠ b := by
  obtain ⟨cs, i, p, st, h1, h2, h3⟩ := h
  exact (ne_of_none h1 n).symm
abbrev sBox : Stmt := top 35
abbrev sTake : Stmt := top 36
abbrev sWords : Stmt := top 37
def spBox (K : PySem.W.Frag) : Sp := fun vs H Q _ => ∃ (a : Addr) (ns : List Int), vs = [.ref a] ∧ SqL K H a (vI ns) ∧ ns.length ≤ 63 ∧ ∀ H' b c, Same H H' → H b = none → BoxAt H' b c → Q (.ref b) H'
def spTake : Sp := fun vs H Q _ => ∃ (b c : Addr) (m : Int), vs = [.ref b, .int m] ∧ BoxAt H b c ∧ 0 < m ∧ m < 1073741824 ∧ ∀ (r : Nat) H', (r : Int) < m → BoxAt H' b c → Same (off b H) (off b H') → Q (.int r) H'
section
variable {P : Program} {w : World} {K : PySem.W.Frag} {mg : Str → Option Value} {base : Heap}
theorem scBox : FnScope ["_law_script", "_law_cell"] ["_law_script"] (defScope sBox) := ⟨rfl, rfl, rfl, by decide +kernel, rfl, by decide +kernel, by decide +kernel⟩
theorem cut_vI (ns : List Int) (lo hi : Option Int) : ∃ ms, cutV (vI ns) lo hi = vI ms ∧ ms.length ≤ ns.length := by
  refine ⟨(ns.drop (HT.sIx (vI ns).length 0 lo)).take (HT.sIx (vI ns).length (vI ns).length hi - HT.sIx (vI ns).length 0 lo), ?_, ?_⟩
  · unfold cutV vI
    rw [List.map_take, List.map_drop]
  · rw [List.length_take, List.length_drop]
    omega
theorem ok_box {f : Addr} {fd : FuncData} (F : Fun K "_law_box" "_law_box" sBox f fd) (B : Bt mg) : FnOk P w K mg base CX0 1 f fd ["_law_script"] (spBox K) := by
  refine F.ok scBox (fun vs H Q E h => ?_) (fun cdv A outer s H vs Q E hr h => ?_)
  · obtain ⟨a, ns, rfl, _⟩ := h
    rfl
  · obtain ⟨a, ns, rfl, hS, hlen, k⟩ := h
    refine ⟨_, pss_one (ps_ret (pe_lst (pa_cons (pe_lc (own := [("_law_cell", 1)]) (g := gName 1) (tt := tYes) rfl scBox.nd (pi_list (pe_slice sl_list (pv 0) po_none (po_some pe_int))) (blkOk_by (own := [("_law_cell", 1)]) (N := ["_law_script", "_law_cell"]) (sc := defScope sBox) (by decide +kernel))
          (fun _ _ _ _ _ => pg_name (i := 1) scBox.nd rfl (Or.inl rfl)) (fun _ _ _ _ _ => pts_nil)
          (fun _ _ _ _ _ => pe_callB call_abs (by rfl) B.abs (by decide +kernel) (pa_cons (pe_callTy call_int1 (by rfl) B.int (by decide +kernel) (pa_cons (pv 1) pa_nil)) pa_nil)))
        (pa_cons pe_int (pa_cons pe_int (pa_cons pe_int pa_nil)))))), ?_⟩
    refine ⟨_, rfl, 63, rfl, a, _, rfl, hS, fun p hp => ?_⟩
    obtain ⟨ms, em, lm⟩ := cut_vI ns none (some 63)
    rw [em]
    refine ⟨p, rfl, ⟨_, SqL.of upd_same⟩, fun D hD => ?_⟩
    have s1 := Same.new (H := H) (o := .lst (vI ms)) hp
    have hp1 : upd H p (.lst (vI ms)) p = some (.lst (vI ms)) := upd_same
    have hD0 := s1.free hD
    generalize upd H p (.lst (vI ms)) = H1 at hD s1 hp1
    refine lc_list (K := K) (a := p) (xs := vI ms) (fun i H' => Same H1 H' ∧ ∃ cs, H' D = some (.lst (vI cs)) ∧ cs.length = i ∧ ∀ x ∈ cs, 0 ≤ x) ⟨Same.new hD, [], upd_same, rfl, fun _ h => nomatch h⟩ (fun i H' _ ⟨s, _⟩ => SqL.of (s _ _ hp1)) ?_ ?_
    · rintro i y H2 hi ⟨s2, cs, hd, el, hc⟩
      obtain ⟨x, hx, rfl⟩ := vI_at hi
      have hi' := (List.getElem?_eq_some_iff.mp hx).1
      refine ⟨rfl, yesT (iteT ?_)⟩
      refine ⟨_, rfl, .inl ⟨_, rfl, _, rfl, ?_⟩⟩
      refine ⟨_, hd, ?_, Same.updN s2 hD, cs ++ [if x < 0 then -x else x], ?_, by simp [el], ?_⟩
      · rw [vI_len, el]
        exact Nat.lt_of_le_of_lt (by omega : i ≤ 63) (by decide)
      · rw [upd_same]
        unfold vI
        rw [List.map_append]
        rfl
      · intro z hz
        rcases List.mem_append.mp hz with h | h
        · exact hc z h
        · rw [List.mem_singleton.mp h]
          split <;> omega
    · rintro H2 ⟨s2, cs, hd, el, hc⟩
      refine ⟨by show 4 ≤ sizeLine; decide, fun b hb => ?_⟩
      have nDb : D ≠ b := ne_of_none hd hb
      refine k _ b D (s1.trans (Same.upd s2 hb)) ((s1.trans s2).free hb) ⟨cs, 0, 0, 0, upd_same, by rw [upd_ne nDb]; exact hd, nDb, by decide, by decide, by decide, by decide, hc⟩
theorem scTake : FnScope ["_law_box_here", "_law_many", "_law_digit", "_law_cell"] ["_law_box_here", "_law_many"] (defScope sTake) := ⟨rfl, rfl, rfl, by decide +kernel, rfl, by decide +kernel, by decide +kernel⟩
theorem ok_take {f : Addr} {fd : FuncData} (F : Fun K "_law_take" "_law_take" sTake f fd) (B : Bt mg) : FnOk P w K mg base CX0 1 f fd ["_law_box_here", "_law_many"] spTake := by
  refine F.ok scTake (fun vs H Q E h => ?_) (fun cdv A outer s H vs Q E hr h => ?_)
  · obtain ⟨b, c, m, rfl, _⟩ := h
    rfl
  · obtain ⟨b, c, m, rfl, ⟨cs, i, pd, st, hb, hc, ncb, i0, p0, s0, s1, c0⟩, m0, m1, k⟩ := h
    refine ⟨_, pss_cons (ps_if (pt_cmpR op_gt (pe_ix ix_list (pv 0) pe_int (fun _ _ => rfl)) pe_int (nomark _))
        (pss_cons (ps_set (i := 2) scTake.nd rfl (Or.inl rfl) (pe_op op_mod (pe_callTy call_int1 (by rfl) B.int (by decide +kernel) (pa_cons (pe_ix ix_list (pv 0) pe_int (fun _ _ => rfl)) pa_nil)) (pv 1)))
          (pss_cons (ps_asg (pe_op op_fdiv (pe_ix ix_list (pv 0) pe_int (fun _ _ => rfl)) (pv 1)) (pg_sub (pv 0) pe_int set_list)) (pss_one (ps_ret (pv 2))))) pss_nil)
      (pss_cons (ps_set (i := 3) scTake.nd rfl (Or.inl rfl) pe_int)
      (C8.pss_cut (ps_if (pt_cmpR op_lt (pe_ix ix_list (pv 0) pe_int (fun _ _ => rfl)) (pe_callB call_len_seq (by rfl) B.len PySem.boot_len (pa_cons (pe_ix ix_list (pv 0) pe_int (fun _ _ => rfl)) pa_nil)) (nomark _))
        (pss_cons (ps_set (i := 3) scTake.nd rfl (Or.inl rfl) (pe_ix ix_list (pe_ix ix_list (pv 0) pe_int (fun _ _ => rfl)) (pe_ix ix_list (pv 0) pe_int (fun _ _ => rfl)) (fun _ _ => rfl)))
          (pss_one (ps_asg (pe_op op_add (pe_ix ix_list (pv 0) pe_int (fun _ _ => rfl)) pe_int) (pg_sub (pv 0) pe_int set_list)))) pss_nil)
      (pss_cons (ps_if (pt_cmpR op_ge (pv 3) (pe_op op_pow pe_int pe_int) (nomark _))
        (pss_cons (ps_asg (pe_op op_fdiv (pv 3) (pv 1)) (pg_sub (pv 0) pe_int set_list)) (pss_one (ps_ret (pe_op op_mod (pe_callTy call_int1 (by rfl) B.int (by decide +kernel) (pa_cons (pv 3) pa_nil)) (pv 1))))) pss_nil)
      (pss_cons (ps_asg (pe_op op_mod (pe_callTy call_int1 (by rfl) B.int (by decide +kernel) (pa_cons (pe_op op_add (pe_op op_mul (pe_ix ix_list (pv 0) pe_int (fun _ _ => rfl)) pe_int) (pv 3)) pa_nil)) pe_int) (pg_sub (pv 0) pe_int set_list))
      (pss_one (ps_ret (pe_op op_mod (pe_callTy call_int1 (by rfl) B.int (by decide +kernel) (pa_cons (pe_op op_fdiv (pe_op op_mod (pe_callTy call_int1 (by rfl) B.int (by decide +kernel) (pa_cons (pe_op op_mul (pe_ix ix_list (pv 0) pe_int (fun _ _ => rfl)) pe_int) pa_nil)) pe_int) pe_int) pa_nil)) (pv 1)))))))), ?_⟩
    have box : ∀ (i' pd' st' : Int), 0 ≤ i' → 0 ≤ pd' → 0 ≤ st' → st' < 2147483647 → BoxAt (upd H b (.lst [.ref c, .int i', .int pd', .int st'])) b c := fun i' pd' st' a1 a2 a3 a4 =>
      ⟨cs, i', pd', st', upd_same, by rw [upd_ne ncb]; exact hc, ncb, a1, a2, a3, a4, c0⟩
    have at0 : ∀ (x y z u : V), atI [x, y, z, u] 0 = some x := fun _ _ _ _ => rfl
    have at1 : ∀ (x y z u : V), atI [x, y, z, u] 1 = some y := fun _ _ _ _ => rfl
    have at2 : ∀ (x y z u : V), atI [x, y, z, u] 2 = some z := fun _ _ _ _ => rfl
    have at3 : ∀ (x y z u : V), atI [x, y, z, u] 3 = some u := fun _ _ _ _ => rfl
    refine ⟨_, rfl, b, _, 2, _, rfl, rfl, SqL.of hb, at2 _ _ _ _, _, _, rfl, rfl, _, rfl, ?_⟩
    refine ite2 (fun q => ?_) (fun q => ?_)
    · -- a digit of what is held back
      refine ⟨_, rfl, b, _, 2, _, rfl, rfl, SqL.of hb, at2 _ _ _ _, .inl ⟨_, rfl, _, rfl, _, _, rfl, rfl, m0, ?_⟩⟩
      refine ⟨_, rfl, b, _, 2, _, rfl, rfl, SqL.of hb, at2 _ _ _ _, _, rfl, _, _, rfl, rfl, ⟨m0, m1⟩, ?_⟩
      refine ⟨_, rfl, b, _, 2, 2, rfl, rfl, hb, rfl, ?_⟩
      refine ⟨_, rfl, ?_⟩
      have h1 := Int.emod_nonneg pd (by omega : m ≠ 0)
      have h2 := Int.emod_lt_of_pos pd m0
      obtain ⟨r, hr'⟩ := Int.eq_ofNat_of_zero_le h1
      have z := k r _ (by omega) (box i (pd / m) st i0 (Int.ediv_nonneg p0 (by omega)) s0 s1) (by rw [off_upd]; exact Same.refl _)
      rw [← hr'] at z
      exact z
    · refine ⟨fun σ' H' => ∃ (i' cell : Int), σ' = [some (.ref b), some (.int m), none, some (.int cell)] ∧ 0 ≤ i' ∧ 0 ≤ cell ∧ H' b = some (.lst [.ref c, .int i', .int pd, .int st]) ∧ Same (off b H) (off b H'), ?_, ?_⟩
      · refine ⟨_, rfl, b, _, 1, _, rfl, rfl, SqL.of hb, at1 _ _ _ _, ?_⟩
        refine ⟨_, rfl, b, _, 0, _, rfl, rfl, SqL.of hb, at0 _ _ _ _, c, _, rfl, .inl (SqL.of hc), _, _, rfl, rfl, _, rfl, ?_⟩
        refine ite2 (fun q => ?_) (fun q => ⟨i, 0, rfl, i0, by decide, hb, Same.refl _⟩)
        rw [decide_eq_true_iff, vI_len] at q
        obtain ⟨i1, rfl⟩ := Int.eq_ofNat_of_zero_le i0
        obtain ⟨x, hx⟩ : ∃ x, cs[i1]? = some x := ⟨_, List.getElem?_eq_getElem (by omega)⟩
        have hxv : (vI cs)[i1]? = some (.int x) := by unfold vI; rw [List.getElem?_map, hx]; rfl
        refine ⟨_, rfl, b, _, 0, _, rfl, rfl, SqL.of hb, at0 _ _ _ _, ?_⟩
        refine ⟨_, rfl, b, _, 1, _, rfl, rfl, SqL.of hb, at1 _ _ _ _, c, _, _, _, rfl, rfl, SqL.of hc, atI_nat hxv, ?_⟩
        refine ⟨_, rfl, b, _, 1, _, rfl, rfl, SqL.of hb, at1 _ _ _ _, _, _, rfl, rfl, ?_⟩
        refine ⟨_, rfl, b, _, 1, 1, rfl, rfl, hb, rfl, ?_⟩
        exact ⟨(i1 : Int) + 1, x, rfl, by omega, c0 x (List.mem_of_getElem? hx), upd_same, by rw [off_upd]; exact Same.refl _⟩
      · rintro σ' H' ⟨i', cell, rfl, j0, c1, hb', so⟩
        have hc' : H' c = some (.lst (vI cs)) := off_le _ _ (so _ _ (by rw [off_ne ncb]; exact hc))
        have box : ∀ (i' pd' st' : Int), 0 ≤ i' → 0 ≤ pd' → 0 ≤ st' → st' < 2147483647 → BoxAt (upd H' b (.lst [.ref c, .int i', .int pd', .int st'])) b c := fun i' pd' st' a1 a2 a3 a4 =>
          ⟨cs, i', pd', st', upd_same, by rw [upd_ne ncb]; exact hc', ncb, a1, a2, a3, a4, c0⟩
        refine ⟨_, rfl, _, _, rfl, rfl, ⟨by decide, by decide, by decide⟩, _, _, rfl, rfl, _, rfl, ?_⟩
        refine ite2 (fun q => ?_) (fun q => ?_)
        · refine ⟨_, rfl, _, rfl, _, _, rfl, rfl, ⟨m0, m1⟩, ?_⟩
          refine ⟨_, rfl, b, _, 2, 2, rfl, rfl, hb', rfl, ?_⟩
          refine ⟨_, rfl, .inl ⟨_, rfl, _, rfl, _, _, rfl, rfl, m0, ?_⟩⟩
          have h1 := Int.emod_nonneg cell (by omega : m ≠ 0)
          have h2 := Int.emod_lt_of_pos cell m0
          obtain ⟨r, hr'⟩ := Int.eq_ofNat_of_zero_le h1
          have z := k r _ (by omega) (box i' (cell / m) st j0 (Int.ediv_nonneg c1 (by omega)) s0 s1) (by rw [off_upd]; exact so)
          rw [← hr'] at z
          exact z
        · refine ⟨_, rfl, b, _, 3, _, rfl, rfl, SqL.of hb', at3 _ _ _ _, _, _, rfl, rfl, .inl ⟨by omega, by omega⟩, ?_⟩
          refine ⟨_, rfl, _, _, rfl, rfl, .inl ⟨_, rfl, _, _, rfl, rfl, (by show (0 : Int) < 2147483647; decide), ?_⟩⟩
          refine ⟨_, rfl, b, _, 3, 3, rfl, rfl, hb', rfl, ?_⟩
          have h1 := Int.emod_nonneg (st * 48271 + cell) (by decide : (2147483647 : Int) ≠ 0)
          have h2 := Int.emod_lt_of_pos (st * 48271 + cell) (by decide : (0 : Int) < 2147483647)
          have bx := box i' pd ((st * 48271 + cell) % 2147483647) j0 p0 h1 h2
          have eb : (upd H' b (.lst [.ref c, .int i', .int pd, .int ((st * 48271 + cell) % 2147483647)])) b = some (.lst [.ref c, .int i', .int pd, .int ((st * 48271 + cell) % 2147483647)]) := upd_same
          have so2 : Same (off b H) (off b (upd H' b (.lst [.ref c, .int i', .int pd, .int ((st * 48271 + cell) % 2147483647)]))) := by rw [off_upd]; exact so
          refine ⟨_, rfl, b, _, 3, _, rfl, rfl, SqL.of eb, at3 _ _ _ _, _, _, rfl, rfl, .inl ⟨by omega, by omega⟩, .inl ⟨_, rfl, _, _, rfl, rfl, (by show (0 : Int) < 2147483629; decide), _, _, rfl, rfl, ⟨by decide, by decide⟩, .inl ⟨_, rfl, _, rfl, _, _, rfl, rfl, m0, ?_⟩⟩⟩
          have h3 := Int.emod_nonneg ((st * 48271 + cell) % 2147483647 * 69621 % 2147483629 / 16) (by omega : m ≠ 0)
          have h4 := Int.emod_lt_of_pos ((st * 48271 + cell) % 2147483647 * 69621 % 2147483629 / 16) m0
          obtain ⟨r, hr'⟩ := Int.eq_ofNat_of_zero_le h3
          have z := k r _ (by omega) bx so2
          rw [← hr'] at z
          exact z
end
end Toy
namespace Toy
open PySem L2
/-! ### canonical lists of words -/
def Can (n : Nat) (ws : List Int) : Prop := asc ws n = ws
theorem asc_congr {a b : List Int} : ∀ {n : Nat}, (∀ j : Nat, j < n → (((j : Int) ∈ a) ↔ ((j : Int) ∈ b))) → asc a n = asc b n
  | 0, _ => rfl
  | n + 1, h => by
    rw [asc_succ, asc_succ, asc_congr (n := n) fun j hj => h j (by omega)]
    have q := h n (by omega)
    by_cases c : (n : Int) ∈ a
    · rw [if_pos c, if_pos (q.mp c)]
    · rw [if_neg c, if_neg fun z => c (q.mpr z)]
theorem asc_mem {ns : List Int} {n : Nat} {x : Int} (h : x ∈ asc ns n) : x ∈ ns ∧ 0 ≤ x ∧ x < (n : Int) := by
  unfold asc at h
  obtain ⟨i, hi, rfl⟩ := List.mem_map.mp h
  obtain ⟨h1, h2⟩ := List.mem_filter.mp hi
  have := List.mem_range.mp h1
  exact ⟨of_decide_eq_true h2, by omega, by omega⟩
theorem Can.mem {n : Nat} {ws : List Int} (c : Can n ws) {x : Int} (h : x ∈ ws) : 0 ≤ x ∧ x < (n : Int) := by
  have c' : asc ws n = ws := c
  rw [← c'] at h
  exact (asc_mem h).2
theorem Can.len {n : Nat} {ws : List Int} (c : Can n ws) : ws.length ≤ n := by
  have c' : asc ws n = ws := c
  rw [← c']
  exact asc_len _ _
theorem Can.skip {n : Nat} {ws : List Int} (c : Can n ws) : Can (n + 1) ws := by
  show asc ws (n + 1) = ws
  rw [asc_succ, if_neg fun h => by have := c.mem h; omega]
  exact c
theorem Can.add {n : Nat} {ws : List Int} (c : Can n ws) : Can (n + 1) (ws ++ [(n : Int)]) := by
  show asc (ws ++ [(n : Int)]) (n + 1) = _
  rw [asc_succ, if_pos (by simp)]
  have e : asc (ws ++ [(n : Int)]) n = asc ws n := asc_congr fun j hj => by
    have : ¬ ((j : Int) = (n : Int)) := by omega
    simp [this]
  rw [e, c]
theorem Can.one {n : Nat} {x : Nat} (h : x < n) : Can n [(x : Int)] := by
  induction n with
  | zero => omega
  | succ n ih =>
    by_cases e : x = n
    · subst e
      exact Can.add (n := x) (ws := []) (by
        show asc [] x = []
        unfold asc
        simp)
    · exact (ih (by omega)).skip
theorem Can.nil {n : Nat} : Can n [] := by
  show asc [] n = []
  unfold asc
  simp
structure Lt (K : PySem.W.Frag) (mg : Str → Option Value) : Prop where
  B : Bt mg
  take : ∃ f fd, Fun K "_law_take" "_law_take" sTake f fd ∧ mg "_law_take" = some (.ref f) ∧ Binds K fd ["_law_box_here", "_law_many"] []
  words : ∃ f fd, Fun K "_law_words" "_law_words" sWords f fd ∧ mg "_law_words" = some (.ref f) ∧ Binds K fd ["_law_box_here", "_law_n", "_law_least"] []
section
variable {P : Program} {w : World} {K : PySem.W.Frag} {mg : Str → Option Value} {base : Heap}
theorem scWords : FnScope ["_law_box_here", "_law_n", "_law_least", "_law_mask", "_law_word"] ["_law_box_here", "_law_n", "_law_least"] (defScope sWords) := ⟨rfl, rfl, rfl, by decide +kernel, rfl, by decide +kernel, by decide +kernel⟩
theorem off_free {b l : Addr} {H : Hp} (h : H l = none) : off b H l = none := by
  by_cases e : l = b
  · rw [e, off_at]
  · rw [off_ne e]; exact h
end
end Toy
namespace Toy
open PySem L2
/-! ### data compared -/
def dI (ns : List Int) : List PyData := ns.map PyData.int
def dR (R : List (List Int)) : List PyData := R.map fun r => .list (dI r)
theorem eqv_dI : ∀ a b : List Int, PyData.eqvAll (dI a) (dI b) = decide (a = b)
  | [], [] => by simp [dI, PyData.eqvAll]
  | [], _ :: _ => by simp [dI, PyData.eqvAll]
  | _ :: _, [] => by simp [dI, PyData.eqvAll]
  | x :: a, y :: b => by
    have ih := eqv_dI a b
    show PyData.eqvAll (.int x :: dI a) (.int y :: dI b) = _
    rw [PyData.eqvAll, PyData.eqv, ih]
    by_cases h : x = y
    · subst h
      simp
    · simp [h]
theorem eqv_dR : ∀ a b : List (List Int), PyData.eqvAll (dR a) (dR b) = decide (a = b)
  | [], [] => by simp [dR, PyData.eqvAll]
  | [], _ :: _ => by simp [dR, PyData.eqvAll]
  | _ :: _, [] => by simp [dR, PyData.eqvAll]
  | x :: a, y :: b => by
    have ih := eqv_dR a b
    show PyData.eqvAll (.list (dI x) :: dR a) (.list (dI y) :: dR b) = _
    rw [PyData.eqvAll, PyData.eqv, ih, eqv_dI]
    by_cases h : x = y
    · subst h
      simp
    · simp [h]
theorem lay_dI : ∀ a : List Int, PyData.canLayAll0 (dI a) = true
  | [] => rfl
  | x :: a => by
    show (PyData.canLay0 (.int x) && PyData.canLayAll0 (dI a)) = true
    rw [lay_dI a]
    rfl
theorem dep_dI : ∀ a : List Int, PyData.depthAll (dI a) = 0
  | [] => rfl
  | x :: a => by
    show max (PyData.depth (.int x)) (PyData.depthAll (dI a)) = 0
    rw [dep_dI a]
    rfl
theorem lay_dR : ∀ a : List (List Int), PyData.canLayAll0 (dR a) = true
  | [] => rfl
  | x :: a => by
    show (PyData.canLay0 (.list (dI x)) && PyData.canLayAll0 (dR a)) = true
    rw [lay_dR a]
    show (PyData.canLayAll0 (dI x) && true) = true
    rw [lay_dI]
    rfl
theorem dep_dR : ∀ a : List (List Int), PyData.depthAll (dR a) ≤ 1
  | [] => by decide
  | x :: a => by
    have ih := dep_dR a
    show max (PyData.depthAll (dI x) + 1) (PyData.depthAll (dR a)) ≤ 1
    rw [dep_dI]
    omega
theorem shI (a : List Int) : SeqAt.shaped (.list (dI a)) = true := by
  show (PyData.canLayAll0 (dI a) && decide (PyData.depthAll (dI a) + 1 ≤ 64)) = true
  rw [lay_dI, dep_dI]
  rfl
theorem shR (a : List (List Int)) : SeqAt.shaped (.list (dR a)) = true := by
  show (PyData.canLayAll0 (dR a) && decide (PyData.depthAll (dR a) + 1 ≤ 64)) = true
  have := dep_dR a
  rw [lay_dR, decide_eq_true (by omega)]
  rfl
theorem eqI (a b : List Int) : PyData.eqv (.list (dI a)) (.list (dI b)) = decide (a = b) := by rw [PyData.eqv, eqv_dI]
theorem eqR (a b : List (List Int)) : PyData.eqv (.list (dR a)) (.list (dR b)) = decide (a = b) := by rw [PyData.eqv, eqv_dR]
theorem dpAllI {K : PySem.W.Frag} {H : Hp} : ∀ a : List Int, DpAll K H (vI a) (dI a)
  | [] => .nil
  | x :: a => .cons (.int x) (dpAllI a)
theorem dpI {K : PySem.W.Frag} {H : Hp} {l : Addr} {a : List Int} (h : SqL K H l (vI a)) : Dp K H (.ref l) (.list (dI a)) := .lst h (dpAllI a)
theorem dpAllR {K : PySem.W.Frag} {H : Hp} : ∀ {ls : List V} {R : List (List Int)}, RowsL H ls R → DpAll K H ls (dR R)
  | _, _, .nil => .nil
  | _, _, .cons ⟨t, e, q⟩ r => .cons (by rw [e]; exact dpI (SqL.of q)) (dpAllR r)
theorem dpR {K : PySem.W.Frag} {H : Hp} {l : Addr} {ls : List V} {R : List (List Int)} (h : SqL K H l ls) (r : RowsL H ls R) : Dp K H (.ref l) (.list (dR R)) := .lst h (dpAllR r)
/-! ### rows that are new -/
theorem RowsN.same {G0 G G' : Hp} {ls R} (s : Same G G') (h : RowsN G0 G ls R) : RowsN G0 G' ls R := L2.Paired.mapP h fun _ _ ⟨t, e, q, z⟩ => ⟨t, e, s _ _ q, z⟩
theorem RowsN.rows {G0 G : Hp} {ls R} (h : RowsN G0 G ls R) : RowsL G ls R := L2.Paired.mapP h fun _ _ ⟨t, e, q, z⟩ => ⟨t, e, q⟩
theorem RowsN.snoc {G0 G : Hp} {l t : Addr} {o : HO} {ls R r} (h : RowsN G0 G ls R) (nl : ∀ v ∈ ls, v ≠ .ref l) (ht : G t = some (.lst (vI r))) (h0 : G0 t = none) (n : t ≠ l) :
    RowsN G0 (upd G l o) (ls ++ [.ref t]) (R ++ [r]) ∧ ∀ v ∈ ls ++ [V.ref t], v ≠ .ref l := by
  refine ⟨L2.Paired.snoc ⟨t, rfl, by rw [upd_ne n]; exact ht, h0⟩ (PairedIn.map h fun v r hv ⟨t', e, q, z⟩ => ⟨t', e, ?_, z⟩), fun v hv => ?_⟩
  · rw [upd_ne fun z => nl v hv (by rw [e, z])]
    exact q
  · rcases List.mem_append.mp hv with hv | hv
    · exact nl v hv
    · rw [List.mem_singleton.mp hv]
      exact fun z => n (V.ref.inj z)
theorem tf_rows' (n : Nat) (tr tp : Addr) : (tf n tr tp).lookup ("rows" : Str) = none := tf_no _ _ _ (by decide +kernel) (by decide +kernel) (by decide +kernel)
end Toy
namespace L2
open PySem PySem.Spec PyProof.Rows
section
variable {X : Cx} {CX : CXT} {k : Nat} {C f : Addr} {fd : FuncData} {ps : List Str} {sp : Sp} {E : XK} {a b : Expr} {ta tb : TE} {pos : Pos}
end
section
variable {X : Cx} {CX : CXT} {k : Nat} {C g : Addr} {sp : Sp} {E : XK} {fe e : Expr} {es : List Expr} {tf : TE} {t : TA} {pos : Pos}
end
end L2
namespace Toy
open PySem PySem.Spec PyProof.Rows L2
/-! ### equal lists of flat things -/
def flatD : V → PyData
  | .bl b => .bool b
  | .int i => .int i
  | .str s => .str s
  | _ => .none
def flatOk : V → Bool
  | .bl _ => true
  | .int _ => true
  | .str s => PyData.canLay0 (.str s)
  | .non => true
  | _ => false
theorem dpF {K : PySem.W.Frag} {H : Hp} : ∀ {v : V}, flatOk v = true → Dp K H v (flatD v)
  | .bl b, _ => .bl b
  | .int i, _ => .int i
  | .str s, _ => .str s
  | .non, _ => .non
theorem dpAllF {K : PySem.W.Frag} {H : Hp} : ∀ {xs : List V}, xs.all flatOk = true → DpAll K H xs (xs.map flatD)
  | [], _ => .nil
  | v :: r, h => by
    rw [List.all_cons, Bool.and_eq_true] at h
    exact .cons (dpF h.1) (dpAllF h.2)
theorem layF : ∀ {v : V}, flatOk v = true → PyData.canLay0 (flatD v) = true ∧ PyData.depth (flatD v) = 0
  | .bl b, _ => ⟨rfl, rfl⟩
  | .int i, _ => ⟨rfl, rfl⟩
  | .str s, h => ⟨h, rfl⟩
  | .non, _ => ⟨rfl, rfl⟩
theorem layAllF : ∀ {xs : List V}, xs.all flatOk = true → PyData.canLayAll0 (xs.map flatD) = true ∧ PyData.depthAll (xs.map flatD) = 0
  | [], _ => ⟨rfl, rfl⟩
  | v :: r, h => by
    rw [List.all_cons, Bool.and_eq_true] at h
    have ⟨a1, a2⟩ := layF h.1
    have ⟨b1, b2⟩ := layAllF h.2
    constructor
    · show (PyData.canLay0 (flatD v) && PyData.canLayAll0 (r.map flatD)) = true
      rw [a1, b1]
      rfl
    · show max (PyData.depth (flatD v)) (PyData.depthAll (r.map flatD)) = 0
      rw [a2, b2]
      rfl
theorem shF {xs : List V} (h : xs.all flatOk = true) : SeqAt.shaped (.list (xs.map flatD)) = true := by
  have ⟨a, b⟩ := layAllF h
  show (PyData.canLayAll0 (xs.map flatD) && decide (PyData.depthAll (xs.map flatD) + 1 ≤ 64)) = true
  rw [a, b]
  rfl
/-- two lists of the same flat things, asked by != in a test -/
theorem neF {K : PySem.W.Frag} {H : Hp} {p q : Addr} {xs : List V} {R : Bool → Hp → Prop} (hp : H p = some (.lst xs)) (hq : H q = some (.lst xs)) (ok : xs.all flatOk = true) (h : R false H) : rNeD K (.ref p) (.ref q) H fun v H' => ∃ k, v = .bl k ∧ R k H' := by
  refine ⟨_, _, .lst (SqL.of hp) (dpAllF ok), .lst (SqL.of hq) (dpAllF ok), shF ok, shF ok, _, rfl, ?_⟩
  rw [SeqAt.eqv_refl _ (SeqAt.canLay_of_shaped (shF ok))]
  exact h
/-! ### parts of a list -/
end Toy
namespace L2
open PySem PySem.Spec PyProof.Rows
section
variable {X : Cx} {CX : CXT} {k : Nat} {C f : Addr} {fd : FuncData} {ps : List Str} {sp : Sp} {E : XK}
end
end L2
namespace Toy
open PySem L2
section
variable {P : Program} {w : World} {K : PySem.W.Frag} {mg : Str → Option Value} {base : Heap}
end
end Toy
namespace Toy
open PySem L2
theorem Tab.off {C b c : Addr} {H : Hp} {p : Addr} {R} (h : Tab C H p R) (hb : BoxAt H b c) : Tab C (Toy.off b H) p R := by
  obtain ⟨dx, tr, tp, ts, qs, h1, h2, h3, h4, h5, h6, h7⟩ := h
  obtain ⟨cs, i, pd, st, e, _⟩ := hb
  have ne : ∀ {a : Addr} {o : HO}, H a = some o → o ≠ .lst [.ref c, .int i, .int pd, .int st] → Toy.off b H a = some o := fun q d => by rw [off_ne (ne_of q e d)]; exact q
  exact ⟨dx, tr, tp, ts, qs, ne h1 (fun z => nomatch z), ne h2 (fun z => nomatch z), ne h3 (fun z => nomatch z), L2.Paired.mapP h4 fun _ _ ⟨t, e, q⟩ => ⟨t, e, ne q (fun z => nomatch z)⟩, ne h5 (fun z => nomatch z), L2.Paired.mapP h6 fun _ _ ⟨t, e, q⟩ => ⟨t, e, ne q (fun z => nomatch z)⟩, h7⟩
theorem Tab.updL {C : Addr} {H : Hp} {p a : Addr} {xs ys : List V} {R} (h : Tab C H p R) (e : H a = some (.lst xs)) : Tab C (upd H a (.lst ys)) p R := by
  obtain ⟨dx, tr, tp, ts, qs, h1, h2, h3, h4, h5, h6, h7⟩ := h
  have ne : ∀ {b : Addr} {o : HO}, H b = some o → o ≠ .lst xs → upd H a (.lst ys) b = some o := fun q d => by rw [upd_ne (ne_of q e d)]; exact q
  exact ⟨dx, tr, tp, ts, qs, ne h1 (fun z => nomatch z), ne h2 (fun z => nomatch z), ne h3 (fun z => nomatch z), L2.Paired.mapP h4 fun _ _ ⟨t, e, q⟩ => ⟨t, e, ne q (fun z => nomatch z)⟩, ne h5 (fun z => nomatch z), L2.Paired.mapP h6 fun _ _ ⟨t, e, q⟩ => ⟨t, e, ne q (fun z => nomatch z)⟩, h7⟩
theorem Paired.mem {α β : Type} {F : α → β → Prop} {xs : List α} {ys : List β} (h : Paired F xs ys) {x : α} (m : x ∈ xs) : ∃ y, y ∈ ys ∧ F x y := by
  obtain ⟨i, hi⟩ := List.mem_iff_getElem?.mp m
  obtain ⟨y, hy, f⟩ := L2.Paired.at h hi
  exact ⟨y, List.mem_of_getElem? hy, f⟩
/-- a table made of canonical rows has these rows -/
theorem same_rows {n : Nat} : ∀ {R : List (List Int)}, (∀ r ∈ R, Can n r) → (R.map fun g => asc g n) = R
  | [], _ => rfl
  | r :: R, c => by
    have ih := same_rows fun r hr => c r (List.mem_cons_of_mem _ hr)
    have cr : asc r n = r := c r List.mem_cons_self
    rw [List.map_cons, ih, cr]
theorem can_all {n : Nat} {R : List (List Int)} (hC : ∀ r ∈ R, Can n r) (h6 : n ≤ 6) : ∀ g ∈ R, g.length < sizeLine ∧ g.all (isW n) = true := fun g hg => by
  refine ⟨Nat.lt_of_le_of_lt (Nat.le_trans (hC g hg).len h6) (by decide), List.all_eq_true.mpr fun x hx => ?_⟩
  have := (hC g hg).mem hx
  unfold isW
  rw [decide_eq_true this.1, decide_eq_true this.2]
  rfl
theorem BoxAt.keep {H H' : Hp} {b c x : Addr} (h : BoxAt H b c) (hx : H x = none) (k : ∀ q o, q ≠ x → H q = some o → H' q = some o) : BoxAt H' b c :=
  h.same fun q o e => k q o (ne_of_none e hx) e
def spLaw (K : PySem.W.Frag) : Sp := fun vs H Q _ => ∃ (a : Addr) (ns : List Int), vs = [.ref a] ∧ SqL K H a (ns.map V.int) ∧ ns.length ≤ 63 ∧ ∀ H', Q (.bl true) H'
end Toy
namespace L2
open PySem PySem.Spec PyProof.Rows
end L2
namespace Toy
open PySem L2
/-! ### the words below n of which p holds -/
def filt (n : Nat) (p : Nat → Bool) : List Int := ((List.range n).filter p).map fun (i : Nat) => (i : Int)
theorem filt_succ (n : Nat) (p : Nat → Bool) : filt (n + 1) p = if p n = true then filt n p ++ [(n : Int)] else filt n p := by
  unfold filt
  rw [List.range_succ, List.filter_append]
  by_cases h : p n = true
  · rw [if_pos h]
    simp [h]
  · rw [if_neg h]
    simp [h]
theorem filt_yes {n : Nat} {p : Nat → Bool} (h : p n = true) : filt (n + 1) p = filt n p ++ [(n : Int)] := by rw [filt_succ, if_pos h]
theorem filt_no {n : Nat} {p : Nat → Bool} (h : p n = false) : filt (n + 1) p = filt n p := by rw [filt_succ, if_neg (by rw [h]; exact Bool.false_ne_true)]
theorem filt_mem {n : Nat} {p : Nat → Bool} {j : Nat} : ((j : Int) ∈ filt n p) ↔ (j < n ∧ p j = true) := by
  unfold filt
  simp only [List.mem_map, List.mem_filter, List.mem_range]
  constructor
  · rintro ⟨i, h, e⟩
    have : i = j := by omega
    subst this
    exact h
  · exact fun h => ⟨j, h, rfl⟩
theorem filt_len (n : Nat) (p : Nat → Bool) : (filt n p).length ≤ n := by
  unfold filt
  rw [List.length_map]
  exact Nat.le_trans (List.length_filter_le _ _) (by simp)
theorem filt_congr {n : Nat} {p q : Nat → Bool} (h : ∀ j, j < n → p j = q j) : filt n p = filt n q := by
  unfold filt
  congr 1
  exact List.filter_congr fun j hj => h j (List.mem_range.mp hj)
theorem filt_can {n : Nat} (p : Nat → Bool) : Can n (filt n p) := by
  show filt n (fun i => decide ((i : Int) ∈ filt n p)) = filt n p
  refine filt_congr fun j hj => ?_
  by_cases c : p j = true
  · rw [c, decide_eq_true (filt_mem.mpr ⟨hj, c⟩)]
  · rw [decide_eq_false fun z => c (filt_mem.mp z).2]
    simpa using c
/-- a row of a table -/
def row (R : List (List Int)) (j : Nat) : List Int := R.getD j []
theorem row_of {R : List (List Int)} {j : Nat} {r : List Int} (h : R[j]? = some r) : row R j = r := by
  unfold row
  rw [List.getD_eq_getElem?_getD, h]
  rfl
theorem at_row {R : List (List Int)} {j : Nat} (h : j < R.length) : R[j]? = some (row R j) := by
  unfold row
  rw [List.getD_eq_getElem?_getD, List.getElem?_eq_getElem h]
  rfl
/-- ~ -/
def inv (R : List (List Int)) : List (List Int) := (List.range R.length).map fun (w : Nat) => filt R.length fun t => decide ((w : Int) ∈ row R t)
def CanR (n : Nat) (R : List (List Int)) : Prop := R.length = n ∧ ∀ r ∈ R, Can n r
theorem CanR.row {n : Nat} {R : List (List Int)} (c : CanR n R) {j : Nat} (h : j < n) : Can n (row R j) := c.2 _ (List.mem_of_getElem? (at_row (by rw [c.1]; exact h)))
theorem map_row {R : List (List Int)} {f : List Int → List Int} {j : Nat} (h : j < R.length) : row (R.map f) j = f (row R j) := by
  refine row_of ?_
  rw [List.getElem?_map, at_row h]
  rfl
end Toy
namespace Toy
open PySem L2
theorem RowsL.snoc {G : Hp} {l t : Addr} {o : HO} {ls R r} (h : RowsL G ls R) (nl : ∀ v ∈ ls, v ≠ .ref l) (ht : G t = some (.lst (vI r))) (n : t ≠ l) :
    RowsL (upd G l o) (ls ++ [.ref t]) (R ++ [r]) ∧ ∀ v ∈ ls ++ [V.ref t], v ≠ .ref l := by
  refine ⟨L2.Paired.snoc ⟨t, rfl, by rw [upd_ne n]; exact ht⟩ (PairedIn.map h fun v r hv ⟨t', e, q⟩ => ⟨t', e, ?_⟩), fun v hv => ?_⟩
  · rw [upd_ne fun z => nl v hv (by rw [e, z])]
    exact q
  · rcases List.mem_append.mp hv with hv | hv
    · exact nl v hv
    · rw [List.mem_singleton.mp hv]
      exact fun z => n (V.ref.inj z)
section
variable {P : Program} {w : World} {K : PySem.W.Frag} {mg : Str → Option Value} {base : Heap}
end
end Toy
namespace Toy
open PySem L2
section
variable {P : Program} {w : World} {K : PySem.W.Frag} {mg : Str → Option Value} {base : Heap}
end
end Toy
namespace Toy
open PySem L2
section
variable {P : Program} {w : World} {K : PySem.W.Frag} {mg : Str → Option Value} {base : Heap}
end
end Toy
namespace Toy
open PySem L2
/-- Table(rows), the rows canonical -/
theorem init_of {K : PySem.W.Frag} {C D : Addr} {H5 : Hp} {ks : List V} {R : List (List Int)} {n : Nat} {E : XK} {Z : Addr → Hp → Prop} (hk : H5 D = some (.lst ks)) (hKs : RowsL H5 ks R) (c : CanR n R) (n1 : 1 ≤ n) (n6 : n ≤ 6)
    (hz : ∀ H6 x, Same H5 H6 → H5 x = none → Tab C H6 x R → Z x H6) : ∀ x dx, H5 x = none → H5 dx = none → dx ≠ x → spInit K C (.ref x :: ([.ref D] ++ [])) (upd (upd H5 dx (.own x)) x (.ins C dx [])) (fun v H2 => v = .non ∧ Z x H2) E := by
  intro x dx hx hdx ndx
  have s6 : Same H5 (upd (upd H5 dx (.own x)) x (.ins C dx [])) := Same.upd (Same.new hdx) (by rw [upd_ne ndx.symm]; exact hx)
  have cl := c.1
  refine ⟨x, dx, D, ks, R, rfl, upd_same, by rw [upd_ne ndx]; exact upd_same, s6 _ _ hk, RowsL.same s6 hKs, by omega, by omega, by rw [cl]; exact can_all c.2 n6, fun H6 k6 hT => ⟨rfl, ?_⟩⟩
  rw [cl, same_rows c.2] at hT
  exact hz H6 x (fun q o e => k6 q o (ne_of_none e hx) (s6 _ _ e)) hx hT
end Toy
namespace Toy
open PySem L2
/-! ### the mathematics -/
theorem asc_can {n : Nat} (ws : List Int) : Can n (asc ws n) := filt_can _
theorem prs_mem : ∀ {k : Nat} {R : List (List Int)} {p : Int × Int}, p ∈ prs k R ↔ ∃ j : Nat, j < R.length ∧ p.1 = ((k + j : Nat) : Int) ∧ p.2 ∈ row R j
  | k, [], p => by simp [prs]
  | k, r :: R, p => by
    rw [show prs k (r :: R) = r.map (fun x => ((k : Int), x)) ++ prs (k + 1) R from rfl, List.mem_append, prs_mem (k := k + 1)]
    constructor
    · rintro (h | ⟨j, h1, h2, h3⟩)
      · obtain ⟨x, hx, rfl⟩ := List.mem_map.mp h
        exact ⟨0, by simp, by simp, by rw [row_of (r := r) rfl]; exact hx⟩
      · refine ⟨j + 1, by simp; omega, by rw [h2]; congr 1; omega, ?_⟩
        have e : row (r :: R) (j + 1) = row R j := by unfold row; simp
        rw [e]
        exact h3
    · rintro ⟨j, h1, h2, h3⟩
      cases j with
      | zero =>
        left
        rw [row_of (r := r) rfl] at h3
        exact List.mem_map.mpr ⟨p.2, h3, by rw [Nat.add_zero] at h2; rw [← h2]⟩
      | succ j =>
        right
        have e : row (r :: R) (j + 1) = row R j := by unfold row; simp
        rw [e] at h3
        exact ⟨j, by simp at h1; omega, by rw [h2]; congr 1; omega, h3⟩
def le (R W : List (List Int)) : Bool := (prs 0 R).all fun p => decide (p ∈ prs 0 W)
theorem le_iff {n : Nat} {R W : List (List Int)} (hR : R.length = n) (hW : W.length = n) : le R W = true ↔ ∀ j, j < n → ∀ x ∈ row R j, x ∈ row W j := by
  unfold le
  rw [List.all_eq_true]
  constructor
  · intro h j hj x hx
    have q := of_decide_eq_true (h ((j : Int), x) (prs_mem.mpr ⟨j, by omega, by simp, hx⟩))
    obtain ⟨i, hi, e, hx'⟩ := prs_mem.mp q
    have : i = j := by
      have : ((j : Nat) : Int) = ((0 + i : Nat) : Int) := e
      omega
    subst this
    exact hx'
  · intro h p hp
    obtain ⟨j, hj, e, hx⟩ := prs_mem.mp hp
    exact decide_eq_true (prs_mem.mpr ⟨j, by omega, e, h j (by omega) _ hx⟩)
theorem le_refl {n : Nat} {R : List (List Int)} (h : R.length = n) : le R R = true := (le_iff h h).mpr fun _ _ _ hx => hx
end Toy
namespace Toy
open PySem PySem.Spec PyProof.Rows L2
abbrev sPerson : Stmt := top 33
abbrev sPInit : Stmt := inClass sPerson 0
abbrev sHeard : Stmt := inClass sPerson 1
abbrev sSaid : Stmt := inClass sPerson 2
abbrev sTabP : Stmt := inClass sPerson 3
/-- the attributes of a person -/
def pf (n : Nat) (lh lk : Addr) : List (Str × V) := [("size", V.int n), ("_hears", V.ref lh), ("_says", V.ref lk)]
theorem sh_ : ¬ (("size" : Str) = "_hears") := by decide +kernel
theorem sy_ : ¬ (("size" : Str) = "_says") := by decide +kernel
theorem hy_ : ¬ (("_hears" : Str) = "_says") := by decide +kernel
theorem pf_2 (n : Nat) (lh : Addr) : putF "_hears" (.ref lh) ([("size", V.int n)] : List (Str × V)) = ([("size", V.int n), ("_hears", V.ref lh)] : List (Str × V)) := by
  show (if ("size" : Str) = "_hears" then [(("size" : Str), V.ref lh)] else (("size" : Str), V.int n) :: putF "_hears" (V.ref lh) []) = _
  rw [if_neg sh_]
  rfl
theorem pf_3 (n : Nat) (lh lk : Addr) : putF "_says" (.ref lk) ([("size", V.int n), ("_hears", V.ref lh)] : List (Str × V)) = pf n lh lk := by
  show (if ("size" : Str) = "_says" then _ else (("size" : Str), V.int n) :: (if ("_hears" : Str) = "_says" then _ else (("_hears" : Str), V.ref lh) :: putF "_says" (V.ref lk) [])) = pf n lh lk
  rw [if_neg sy_, if_neg hy_]
  rfl
theorem pf_size (n : Nat) (lh lk : Addr) : (pf n lh lk).lookup ("size" : Str) = some (.int n) := by simp [pf, List.lookup]
theorem pf_hears (n : Nat) (lh lk : Addr) : (pf n lh lk).lookup ("_hears" : Str) = some (.ref lh) := by
  have h : (("_hears" : Str) == "size") = false := by decide +kernel
  simp [pf, List.lookup, h]
theorem pf_says (n : Nat) (lh lk : Addr) : (pf n lh lk).lookup ("_says" : Str) = some (.ref lk) := by
  have h : (("_says" : Str) == "size") = false := by decide +kernel
  have h2 : (("_says" : Str) == "_hears") = false := by decide +kernel
  simp [pf, List.lookup, h, h2]
/-- a person stands at p: what it hears, what it says -/
def Per (C : Addr) (H : Hp) (p : Addr) (ws : List Int) (L : List (List Int)) : Prop :=
  ∃ (dx lh lk : Addr) (ks : List V), H p = some (.ins C dx (pf ws.length lh lk)) ∧ H dx = some (.own p) ∧ H lh = some (.lst (vI ws)) ∧ H lk = some (.lst ks) ∧ RowsL H ks L ∧
    L.length = ws.length ∧ 1 ≤ ws.length ∧ ws.length ≤ 6 ∧ (∀ x ∈ ws, isW ws.length x = true) ∧ ∀ r ∈ L, Can ws.length r
theorem Per.same {C : Addr} {H H' : Hp} {p : Addr} {ws L} (s : Same H H') (h : Per C H p ws L) : Per C H' p ws L := by
  obtain ⟨dx, lh, lk, ks, h1, h2, h3, h4, h5, h6⟩ := h
  exact ⟨dx, lh, lk, ks, s _ _ h1, s _ _ h2, s _ _ h3, s _ _ h4, RowsL.same s h5, h6⟩
def spPInit (K : PySem.W.Frag) (C : Addr) : Sp := fun vs H Q _ => ∃ (p dx l1 l2 : Addr) (hs : List Int) (ls : List V) (G : List (List Int)), vs = [.ref p, .ref l1, .ref l2] ∧ H p = some (.ins C dx []) ∧ H dx = some (.own p) ∧ H l1 = some (.lst (vI hs)) ∧ H l2 = some (.lst ls) ∧ RowsL H ls G ∧
  1 ≤ hs.length ∧ hs.length ≤ 6 ∧ G.length = hs.length ∧ hs.all (isW hs.length) = true ∧ (∀ g ∈ G, 1 ≤ g.length ∧ g.length < sizeLine ∧ g.all (isW hs.length) = true) ∧
  ∀ H' lh lk ks, (∀ b o, b ≠ p → H b = some o → H' b = some o) → H' p = some (.ins C dx (pf hs.length lh lk)) → H lh = none → H' lh = some (.lst (vI hs)) → H lk = none → H' lk = some (.lst ks) → RowsN H H' ks (G.map fun g => asc g hs.length) → Q .non H'
structure PT (K : PySem.W.Frag) (mg : Str → Option Value) (C : Addr) : Prop where
  cl : Cls K C
  nS : NoAttr K C "size"
  nH : NoAttr K C "_hears"
  nY : NoAttr K C "_says"
abbrev rLen (K : PySem.W.Frag) : List V → Hp → VK → Prop := fun xs H Q => ∃ p ys, xs = [V.ref p] ∧ (SqL K H p ys ∨ SqT K H p ys) ∧ Q (V.int (ys.length : Nat)) H
section
variable {P : Program} {w : World} {K : PySem.W.Frag} {mg : Str → Option Value} {base : Heap}
abbrev NPi : List Str := ["self", "hears", "says", "size", "words"]
theorem scPInit : FnScope NPi ["self", "hears", "says"] (defScope sPInit) := ⟨rfl, rfl, rfl, by decide +kernel, rfl, by decide +kernel, by decide +kernel⟩
theorem ok_pInit {f C Ct : Addr} {fd : FuncData} (F : Fun K "__init__" "Person.__init__" sPInit f fd) (S : Gs K mg Ct) (T : PT K mg C) : FnOk P w K mg base CX0 3 f fd ["self", "hears", "says"] (spPInit K C) := by
  obtain ⟨fW, fdW, FW, mW, bW⟩ := S.isW_
  obtain ⟨fA, fdA, FA, mA, bA⟩ := S.allW
  obtain ⟨fI, fdI, FI, mI, bI⟩ := S.isS
  obtain ⟨fS, fdS, FS, mS, bS⟩ := S.asc
  refine F.ok scPInit (fun vs H Q E h => ?_) (fun cdv A outer s H vs Q E hr h => ?_)
  · obtain ⟨p, dx, l1, l2, hs, ls, G, rfl, _⟩ := h
    rfl
  · obtain ⟨p, dx, l1, l2, hs, ls, G, rfl, hp, hdx, hl1, hl2, hR, n1, n6, eG, hall, gG, k⟩ := h
    have hr1 : Room 1 _ := hr.mono (by decide)
    have hr2 : Room 2 _ := hr.mono (by decide)
    refine ⟨_, pss_cons (ps_set (i := 3) scPInit.nd rfl (Or.inr rfl) (pe_callB call_len_seq (by rfl) S.B.len PySem.boot_len (pa_cons (pv 1) pa_nil)))
      (pss_cons (ps_if (PW.pt (pw_or (pt_not (pt_val (pe_call (ok_isSize FI S.T) hr1 rfl mI FI.kp bI .nil pass0 (pa_cons (pv 3) pa_nil)))) (pw_or1 (pt_not (pt_val (pe_call (ok_allWords FA S.B FW mW bW) hr2 rfl mA FA.kp bA .nil pass0 (pa_cons (pv 1) (pa_cons (pv 3) pa_nil)))))))) (pss_one ps_never) pss_nil)
      (pss_cons (ps_if (PW.pt (pw_or (pt_cmpR op_ne (pe_callB call_len_seq (by rfl) S.B.len PySem.boot_len (pa_cons (pv 2) pa_nil)) (pv 3) (nomark _)) (pw_or1 (pt_not (pt_val (pe_callB (cr_all rfl) (by rfl) S.B.all (by decide +kernel) (pa_cons
          (pe_lc (own := [("words", 4)]) (g := gName 4) (tt := tYes) rfl scPInit.nd (pi_list (pv 2)) (blkOk_by (own := [("words", 4)]) (N := NPi) (sc := defScope sPInit) (by decide +kernel))
            (fun _ _ _ _ _ => pg_name (i := 4) scPInit.nd rfl (Or.inl rfl)) (fun _ _ _ _ _ => pts_nil)
            (fun _ _ _ _ _ => pe_and (pe_cmpR op_ge (pe_callB (show CallR _ _ (rLen K) from call_len_seq) (by rfl) S.B.len PySem.boot_len (pa_cons (pv 4) pa_nil)) pe_int (nomark _)) (pe_one (pe_call (ok_allWords FA S.B FW mW bW) hr2 rfl mA FA.kp bA .nil pass0 (pa_cons (pv 4) (pa_cons (pv 3) pa_nil)))))) pa_nil))))))) (pss_one ps_never) pss_nil)
      (pss_cons (ps_fld (pv 0) (pv 3) rfl)
      (pss_cons (ps_fld (pv 0) (pe_callTy call_list_of (by rfl) S.B.list (by decide +kernel) (pa_cons (pv 1) pa_nil)) rfl)
      (pss_one (ps_fld (pv 0) (pe_lc (own := [("words", 4)]) (g := gName 4) (tt := tYes) (te := tCall (spAsc K) [] E0 (tCons (tVar 4) (tCons (tVar 3) tNil))) rfl scPInit.nd (pi_list (pv 2)) (blkOk_by (own := [("words", 4)]) (N := NPi) (sc := defScope sPInit) (by decide +kernel))
            (fun _ _ _ _ _ => pg_name (i := 4) scPInit.nd rfl (Or.inl rfl)) (fun _ _ _ _ _ => pts_nil)
            (fun _ _ _ _ _ => pe_call (ok_asc FS S.B) hr1 rfl mS FS.kp bS .nil pass0 (pa_cons (pv 4) (pa_cons (pv 3) pa_nil)))) rfl)))))), ?_⟩
    have el : ls.length = G.length := Paired.length hR
    have hl : (vI hs).length = hs.length := vI_len hs
    refine ⟨_, rfl, l1, _, rfl, .inl (SqL.of hl1), ?_⟩
    rw [hl]
    refine ⟨_, rfl, (hs.length : Int), rfl, _, rfl, ?_⟩
    rw [decide_eq_true (by omega : (1 : Int) ≤ hs.length), decide_eq_true (by omega : (hs.length : Int) ≤ 6)]
    refine iteF ⟨_, rfl, _, rfl, l1, hs, hs.length, rfl, SqL.of hl1, Nat.lt_of_le_of_lt n6 (by decide), fun H1 s1 => ⟨_, rfl, ?_⟩⟩
    rw [hall]
    refine iteF ?_
    refine ⟨_, rfl, l2, ls, rfl, .inl (SqL.of (s1 _ _ hl2)), _, rfl, rfl, _, rfl, iteNS (by rw [el, eG]) ?_⟩
    refine ⟨_, rfl, l2, rfl, ⟨_, SqL.of (s1 _ _ hl2)⟩, fun D hD => ?_⟩
    refine lc_list (K := K) (a := l2) (xs := ls) (fun i H' => Same H1 H' ∧ H' D = some (.lst ((List.replicate i true).map V.bl))) ⟨Same.new hD, upd_same⟩ (fun i H' _ ⟨s, _⟩ => SqL.of ((s1.trans s) _ _ hl2)) ?_ ?_
    · rintro i y H2 hi ⟨s2, hd⟩
      obtain ⟨g, hg, t, rfl, ht⟩ := L2.Paired.at (RowsL.same (s1.trans s2) hR) hi
      obtain ⟨g1, gl, ga⟩ := gG g (List.mem_of_getElem? hg)
      have il : i < G.length := (List.getElem?_eq_some_iff.mp hg).1
      refine ⟨rfl, yesT (iteT ?_)⟩
      refine ⟨_, rfl, t, _, rfl, .inl (SqL.of ht), _, _, rfl, rfl, _, rfl, ?_⟩
      rw [vI_len, decide_eq_true (by omega : (1 : Int) ≤ (g.length : Int))]
      refine iteT ⟨_, rfl, _, rfl, t, g, hs.length, rfl, SqL.of ht, gl, fun H3 s3 => ?_⟩
      rw [ga]
      refine ⟨_, s3 _ _ hd, ?_, Same.updN (s2.trans s3) hD, ?_⟩
      · rw [List.length_map, List.length_replicate]
        exact Nat.lt_of_le_of_lt (by omega : i ≤ 6) (by decide)
      · rw [upd_same, List.replicate_succ', List.map_append]
        rfl
    rintro H2 ⟨s2, hd⟩
    refine ⟨D, List.replicate ls.length true, rfl, SqL.of hd, ?_⟩
    refine ⟨_, rfl, ?_⟩
    rw [show (List.replicate ls.length true).all id = true by rw [List.all_eq_true]; intro b hb; exact (List.mem_replicate.mp hb).2]
    refine iteF ?_
    have s12 := s1.trans s2
    -- the attributes
    refine ⟨_, rfl, _, rfl, p, C, dx, [], rfl, s12 _ _ hp, T.cl, T.nS, (by show 0 < 1000; decide), ?_⟩
    rw [tf_1]
    generalize hHa : upd H2 p (.ins C dx [(("size" : Str), V.int (hs.length : Int))]) = Ha
    have kA : ∀ b o, b ≠ p → H b = some o → Ha b = some o := fun b o ne e => by rw [← hHa, upd_ne ne]; exact s12 _ _ e
    have fA : ∀ b, Ha b = none → H b = none := fun b e => by
      cases z : H b with
      | none => rfl
      | some o =>
        by_cases ne : b = p
        · subst ne
          rw [← hHa, upd_same] at e
          cases e
        · rw [kA b o ne z] at e
          cases e
    have pA : Ha p = some (.ins C dx [(("size" : Str), V.int (hs.length : Int))]) := by rw [← hHa, upd_same]
    have np1 : l1 ≠ p := ne_of hl1 hp (fun z => nomatch z)
    have np2 : l2 ≠ p := ne_of hl2 hp (fun z => nomatch z)
    have l1A := kA _ _ np1 hl1
    have l2A := kA _ _ np2 hl2
    have RA : RowsL Ha ls G := L2.Paired.mapP hR fun _ _ ⟨t, e, q⟩ => ⟨t, e, kA _ _ (ne_of q hp (fun z => nomatch z)) q⟩
    -- self._hears = list(hears)
    refine ⟨_, rfl, l1, _, rfl, .inl (SqL.of l1A), fun lh hlh => ?_⟩
    have sB := Same.new (H := Ha) (o := .lst (vI hs)) hlh
    have hB : upd Ha lh (.lst (vI hs)) lh = some (.lst (vI hs)) := upd_same
    generalize upd Ha lh (.lst (vI hs)) = Hb at sB hB
    refine ⟨_, rfl, p, C, dx, _, rfl, sB _ _ pA, T.cl, T.nH, (by show 1 < 1000; decide), ?_⟩
    rw [pf_2]
    have pB := sB _ _ pA
    have nlh : lh ≠ p := ne_of hB pB (fun z => nomatch z)
    generalize hHc : upd Hb p (.ins C dx [(("size" : Str), V.int (hs.length : Int)), (("_hears" : Str), V.ref lh)]) = Hc
    have kC : ∀ b o, b ≠ p → Hb b = some o → Hc b = some o := fun b o ne e => by rw [← hHc, upd_ne ne]; exact e
    have pC : Hc p = some (.ins C dx [(("size" : Str), V.int (hs.length : Int)), (("_hears" : Str), V.ref lh)]) := by rw [← hHc, upd_same]
    have kHC : ∀ b o, b ≠ p → H b = some o → Hc b = some o := fun b o ne e => kC _ _ ne (sB _ _ (kA _ _ ne e))
    have fC : ∀ b, Hc b = none → H b = none := fun b e => by
      cases z : H b with
      | none => rfl
      | some o =>
        by_cases ne : b = p
        · subst ne
          rw [pC] at e
          cases e
        · rw [kHC b o ne z] at e
          cases e
    have lhC := kC _ _ nlh hB
    have l2C := kHC _ _ np2 hl2
    have RC : RowsL Hc ls G := L2.Paired.mapP hR fun _ _ ⟨t, e, q⟩ => ⟨t, e, kHC _ _ (ne_of q hp (fun z => nomatch z)) q⟩
    -- self._says = [ascending(words, size) for words in says]
    refine ⟨_, rfl, l2, rfl, ⟨_, SqL.of l2C⟩, fun D2 hD2 => ?_⟩
    refine lc_list (K := K) (a := l2) (xs := ls) (fun i H' => Same Hc H' ∧ ∃ ks, H' D2 = some (.lst ks) ∧ RowsN Hc H' ks ((G.take i).map fun g => asc g hs.length) ∧ ∀ v ∈ ks, v ≠ .ref D2) ⟨Same.new hD2, [], upd_same, .nil, fun _ h => by cases h⟩ (fun i H' _ ⟨s, _⟩ => SqL.of (s _ _ l2C)) ?_ ?_
    · rintro i y H3 hi ⟨s3, ks, hk, hKs, nD⟩
      obtain ⟨g, hg, t, rfl, ht⟩ := L2.Paired.at (RowsL.same s3 RC) hi
      refine ⟨rfl, yesT (iteT ?_)⟩
      refine ⟨_, rfl, _, rfl, t, g, hs.length, rfl, .inl (SqL.of ht), n6, fun H4 q s4 hq0 hq => ?_⟩
      have nq : q ≠ D2 := (ne_of_none hk hq0).symm
      have q0 : Hc q = none := s3.free hq0
      obtain ⟨z1, z2⟩ := RowsN.snoc (G0 := Hc) (o := .lst (ks ++ [.ref q])) (L2.Paired.mapP hKs fun _ _ ⟨t, e, h1, h2⟩ => ⟨t, e, s4 _ _ h1, h2⟩) nD hq q0 nq
      refine ⟨ks, s4 _ _ hk, ?_, Same.updN (s3.trans s4) hD2, ks ++ [.ref q], upd_same, ?_, z2⟩
      · rw [Paired.length hKs, List.length_map]
        exact Nat.lt_of_le_of_lt (Nat.le_trans (List.length_take_le' _ _) (by omega : _ ≤ 6)) (by decide)
      · rw [take_more hg, List.map_append]
        exact z1
    · rintro H3 ⟨s3, ks, hk, hKs, _⟩
      rw [el, List.take_length] at hKs
      have p3 := s3 _ _ pC
      refine ⟨_, rfl, p, C, dx, _, rfl, p3, T.cl, T.nY, (by show 2 < 1000; decide), ?_⟩
      rw [pf_3]
      refine k _ lh D2 ks (fun b o ne e => by rw [upd_ne ne]; exact s3 _ _ (kHC _ _ ne e)) upd_same (fA _ hlh) ?_ (fC _ hD2) ?_ ?_
      · rw [upd_ne nlh]
        exact s3 _ _ lhC
      · rw [upd_ne (ne_of hk p3 (fun z => nomatch z))]
        exact hk
      · exact L2.Paired.mapP hKs fun _ _ ⟨t, e, h1, h2⟩ => ⟨t, e, by rw [upd_ne (ne_of h1 p3 (fun z => nomatch z))]; exact h1, fC _ h2⟩
end
end Toy
namespace Toy
open PySem L2
abbrev sIsInt : Stmt := top 40
abbrev sIsWords : Stmt := top 41
def spIsInt : Sp := fun vs H Q _ => ∃ x : Int, vs = [.int x] ∧ Q (.bl true) H
def spIsWords : Sp := fun vs H Q _ => ∃ (l : Addr) (ws : List Int), vs = [.ref l] ∧ H l = some (.lst (vI ws)) ∧ Q (.bl true) H
section
variable {P : Program} {w : World} {K : PySem.W.Frag} {mg : Str → Option Value} {base : Heap}
theorem scIsInt : FnScope ["_law_value"] ["_law_value"] (defScope sIsInt) := ⟨rfl, rfl, rfl, by decide +kernel, rfl, by decide +kernel, by decide +kernel⟩
theorem ok_isInt {f : Addr} {fd : FuncData} (F : Fun K "_law_is_int" "_law_is_int" sIsInt f fd) (B : Bt mg) : FnOk P w K mg base CX0 1 f fd ["_law_value"] spIsInt := by
  refine F.ok scIsInt (fun vs H Q E h => ?_) (fun cdv A outer s H vs Q E hr h => ?_)
  · obtain ⟨x, rfl, _⟩ := h
    rfl
  · obtain ⟨x, rfl, k⟩ := h
    refine ⟨_, pss_one (ps_ret (pe_and (pe_callB call_isi (by rfl) B.isinstance (by decide +kernel) (pa_cons (pv 0) (pa_cons (pe_bltn (v := .ty "int") (u := .type "int") (by rfl) B.int (by decide +kernel) rfl) pa_nil)))
      (pe_one (pe_not (pe_callB call_isi (by rfl) B.isinstance (by decide +kernel) (pa_cons (pv 0) (pa_cons (pe_bltn (v := .ty "bool") (u := .type "bool") (by rfl) B.bool (by decide +kernel) rfl) pa_nil))))))), ?_⟩
    refine ⟨_, rfl, _, _, .type "int", _, true, rfl, .ty "int", .base (.int x), kit_ty (by decide +kernel), true, rfl, iteT ?_⟩
    refine ⟨_, rfl, _, _, .type "int", _, false, rfl, .ty "bool", .base (.int x), kit_ty (by decide +kernel), false, rfl, k⟩
theorem scIsWords : FnScope ["_law_value", "_law_one"] ["_law_value"] (defScope sIsWords) := ⟨rfl, rfl, rfl, by decide +kernel, rfl, by decide +kernel, by decide +kernel⟩
theorem ok_isWords {f g : Addr} {fd fdg : FuncData} (F : Fun K "_law_is_words" "_law_is_words" sIsWords f fd) (B : Bt mg) (G : Fun K "_law_is_int" "_law_is_int" sIsInt g fdg) (mgG : mg "_law_is_int" = some (.ref g)) (bG : Binds K fdg ["_law_value"] []) :
    FnOk P w K mg base CX0 2 f fd ["_law_value"] spIsWords := by
  refine F.ok scIsWords (fun vs H Q E h => ?_) (fun cdv A outer s H vs Q E hr h => ?_)
  · obtain ⟨l, ws, rfl, _⟩ := h
    rfl
  · obtain ⟨l, ws, rfl, hl, k⟩ := h
    refine ⟨_, pss_cons (ps_if (pt_not (pt_val (pe_callB call_isi (by rfl) B.isinstance (by decide +kernel) (pa_cons (pv 0) (pa_cons (pe_bltn (v := .ty "list") (u := .type "list") (by rfl) B.list (by decide +kernel) rfl) pa_nil))))) (pss_one ps_never) pss_nil)
      (pss_cons (ps_for PassesOwn.never rfl (pi_list (pv 0)) (pg_name (i := 1) scIsWords.nd rfl (Or.inl rfl)) (pss_one (ps_if (pt_not (pt_val (pe_call (ok_isInt G B) hr rfl mgG G.kp bG .nil pass0 (pa_cons (pv 1) pa_nil)))) (pss_one ps_never) pss_nil)))
      (pss_one (ps_ret pe_bl))), ?_⟩
    refine ⟨_, rfl, _, _, .type "list", _, true, rfl, .ty "list", .base (.lst hl), kit_ty (by decide +kernel), _, rfl, iteF ?_⟩
    refine ⟨_, rfl, l, rfl, ⟨_, SqL.of hl⟩, for_list (K := K) (a := l) (xs := vI ws) (fun i σ H' => H' = H ∧ ∃ v, σ = [some (.ref l), v]) ⟨rfl, none, rfl⟩ (fun i σ H' _ ⟨e, _⟩ => by rw [e]; exact SqL.of hl) ?_ ?_⟩
    · rintro i y σ H' hi ⟨rfl, v, rfl⟩
      obtain ⟨x, hx, rfl⟩ := vI_at hi
      exact ⟨_, rfl, x, rfl, _, rfl, iteF ⟨rfl, _, rfl⟩⟩
    · rintro σ H' ⟨rfl, v, rfl⟩
      exact k
end
end Toy
namespace Toy
open PySem PySem.Spec PyProof.Rows L2
theorem pf_no (n : Nat) (lh lk : Addr) {m : Str} (h1 : (m == "size") = false) (h2 : (m == "_hears") = false) (h3 : (m == "_says") = false) : (pf n lh lk).lookup m = none := by
  simp [pf, List.lookup, h1, h2, h3]
theorem pf_heard (n : Nat) (lh lk : Addr) : (pf n lh lk).lookup ("heard" : Str) = none := pf_no _ _ _ (by decide +kernel) (by decide +kernel) (by decide +kernel)
theorem pf_said (n : Nat) (lh lk : Addr) : (pf n lh lk).lookup ("said" : Str) = none := pf_no _ _ _ (by decide +kernel) (by decide +kernel) (by decide +kernel)
theorem isWn {n : Nat} {x : Nat} : isW n (x : Int) = decide (x < n) := by
  unfold isW
  rw [decide_eq_true (by omega : (0 : Int) ≤ (x : Int)), Bool.true_and]
  by_cases h : x < n
  · rw [decide_eq_true h, decide_eq_true (by omega)]
  · rw [decide_eq_false h, decide_eq_false (by omega)]
theorem isW_at {n : Nat} {y : Int} (h : isW n y = true) : ∃ j : Nat, y = (j : Int) ∧ j < n := by
  unfold isW at h
  rw [Bool.and_eq_true, decide_eq_true_iff, decide_eq_true_iff] at h
  exact ⟨y.toNat, by omega, by omega⟩
/-- what may be said for a word -/
def pT (ws : List Int) (L : List (List Int)) : List (List Int) := ws.map fun y => row L y.toNat
theorem pT_len {ws : List Int} {L : List (List Int)} : (pT ws L).length = ws.length := List.length_map ..
theorem pT_at {ws : List Int} {L : List (List Int)} {i : Nat} {y : Int} (h : ws[i]? = some y) : (pT ws L)[i]? = some (row L y.toNat) := by
  unfold pT
  rw [List.getElem?_map, h]
  rfl
theorem pT_can {ws : List Int} {L : List (List Int)} (h : ∀ r ∈ L, Can ws.length r) (e : L.length = ws.length) (w : ∀ x ∈ ws, isW ws.length x = true) : CanR ws.length (pT ws L) := by
  refine ⟨pT_len, fun r hr => ?_⟩
  unfold pT at hr
  obtain ⟨y, hy, rfl⟩ := List.mem_map.mp hr
  obtain ⟨j, rfl, hj⟩ := isW_at (w y hy)
  rw [Int.toNat_natCast]
  exact h _ (List.mem_of_getElem? (at_row (by omega)))
def spHeard (C : Addr) : Sp := fun vs H Q _ => ∃ (p : Addr) (ws : List Int) (L : List (List Int)) (x : Nat) (y : Int), vs = [.ref p, .int x] ∧ Per C H p ws L ∧ ws[x]? = some y ∧ Q (.int y) H
def spSaid (C : Addr) : Sp := fun vs H Q _ => ∃ (p : Addr) (ws : List Int) (L : List (List Int)) (x : Nat) (y : Int), vs = [.ref p, .int x] ∧ Per C H p ws L ∧ ws[x]? = some y ∧ ∀ H' l, Same H H' → H l = none → H' l = some (.lst (vI (row L y.toNat))) → Q (.ref l) H'
def spTabP (C Ct : Addr) : Sp := fun vs H Q _ => ∃ (p : Addr) (ws : List Int) (L : List (List Int)), vs = [.ref p] ∧ Per C H p ws L ∧ ∀ H' x, Same H H' → H x = none → Tab Ct H' x (pT ws L) → Q (.ref x) H'
section
variable {P : Program} {w : World} {K : PySem.W.Frag} {mg : Str → Option Value} {base : Heap}
theorem scHeard : FnScope ["self", "word"] ["self", "word"] (defScope sHeard) := ⟨rfl, rfl, rfl, by decide +kernel, rfl, by decide +kernel, by decide +kernel⟩
theorem ok_heard {f C Ct : Addr} {fd : FuncData} (F : Fun K "heard" "Person.heard" sHeard f fd) (S : Gs K mg Ct) (T : PT K mg C) : FnOk P w K mg base CX0 3 f fd ["self", "word"] (spHeard C) := by
  obtain ⟨fW, fdW, FW, mW, bW⟩ := S.isW_
  obtain ⟨fC, fdC, FC, mC, bC⟩ := S.chW
  refine F.ok scHeard (fun vs H Q E h => ?_) (fun cdv A outer s H vs Q E hr h => ?_)
  · obtain ⟨p, ws, L, x, y, rfl, _⟩ := h
    rfl
  · obtain ⟨p, ws, L, x, y, rfl, hP, hx, k⟩ := h
    obtain ⟨dx, lh, lk, ks, h1, h2, h3, h4, h5, h6, n1, n6, hw, hc⟩ := id hP
    refine ⟨_, pss_cons (ps_expr (pe_call (ok_checkWord FC FW mW bW) hr rfl mC FC.kp bC .nil pass0 (pa_cons (pv 1) (pa_cons (pe_fld (pv 0) rfl) pa_nil))))
      (pss_one (ps_ret (pe_ix ix_list (pe_fld (pv 0) rfl) (pv 1) (fun _ _ => rfl)))), ?_⟩
    have hl := (List.getElem?_eq_some_iff.mp hx).1
    refine ⟨_, rfl, _, rfl, p, C, dx, _, _, rfl, h1, T.cl, T.nS, pf_size _ _ _, (x : Int), ws.length, rfl, by rw [isWn, decide_eq_true hl], ?_⟩
    exact ⟨_, rfl, p, C, dx, _, _, rfl, h1, T.cl, T.nH, pf_hears _ _ _, _, rfl, lh, _, x, _, rfl, rfl, SqL.of h3, atI_nat (v := V.int y) (by unfold vI; rw [List.getElem?_map, hx]; rfl), k⟩
theorem scSaid : FnScope ["self", "word"] ["self", "word"] (defScope sSaid) := ⟨rfl, rfl, rfl, by decide +kernel, rfl, by decide +kernel, by decide +kernel⟩
theorem ok_said {f g C Ct : Addr} {fd fdg : FuncData} (F : Fun K "said" "Person.said" sSaid f fd) (S : Gs K mg Ct) (T : PT K mg C) (G : Fun K "heard" "Person.heard" sHeard g fdg) (mG : Meth K C "heard" g) (bG : Binds K fdg ["self", "word"] []) : FnOk P w K mg base CX0 4 f fd ["self", "word"] (spSaid C) := by
  refine F.ok scSaid (fun vs H Q E h => ?_) (fun cdv A outer s H vs Q E hr h => ?_)
  · obtain ⟨p, ws, L, x, y, rfl, _⟩ := h
    rfl
  · obtain ⟨p, ws, L, x, y, rfl, hP, hx, k⟩ := h
    obtain ⟨dx, lh, lk, ks, h1, h2, h3, h4, h5, h6, n1, n6, hw, hc⟩ := id hP
    refine ⟨_, pss_one (ps_ret (pe_callTy call_list_of (by rfl) S.B.list (by decide +kernel) (pa_cons (pe_ix ix_list (pe_fld (pv 0) rfl) (pe_meth (pv 0) T.cl mG (ok_heard G S T) hr bG .nil pass0 (pa_cons (pv 1) pa_nil)) (fun _ _ => rfl)) pa_nil))), ?_⟩
    obtain ⟨j, rfl, hj⟩ := isW_at (hw _ (List.mem_of_getElem? hx))
    obtain ⟨v, hv, t, rfl, ht⟩ := L2.Paired.at2 h5 (at_row (by omega : j < L.length))
    rw [Int.toNat_natCast] at k
    refine ⟨_, rfl, p, C, dx, _, _, rfl, h1, T.cl, T.nY, pf_says _ _ _, _, rfl, p, dx, _, rfl, h1, pf_heard _ _ _, _, rfl, p, ws, L, x, j, rfl, hP, hx, ?_⟩
    refine ⟨lk, _, j, _, rfl, rfl, SqL.of h4, atI_nat hv, t, _, rfl, .inl (SqL.of ht), fun l hl => ?_⟩
    exact k _ l (Same.new hl) hl upd_same
theorem scTabP : FnScope ["self", "word"] ["self"] (defScope sTabP) := ⟨rfl, rfl, rfl, by decide +kernel, rfl, by decide +kernel, by decide +kernel⟩
theorem ok_tabP {f g e n C Ct : Addr} {fd fdg fde fdn : FuncData} (F : Fun K "table" "Person.table" sTabP f fd) (S : Gs K mg Ct) (T : PT K mg C) (G : Fun K "heard" "Person.heard" sHeard g fdg) (mG : Meth K C "heard" g) (bG : Binds K fdg ["self", "word"] [])
    (E' : Fun K "said" "Person.said" sSaid e fde) (mE : Meth K C "said" e) (bE : Binds K fde ["self", "word"] []) (N : Fun K "__init__" "Table.__init__" sInit n fdn) (M : Mk K Ct n) (bN : Binds K fdn ["self", "rows"] []) : FnOk P w K mg base CX0 5 f fd ["self"] (spTabP C Ct) := by
  refine F.ok scTabP (fun vs H Q E h => ?_) (fun cdv A outer s H vs Q E hr h => ?_)
  · obtain ⟨p, ws, L, rfl, _⟩ := h
    rfl
  · obtain ⟨p, ws, L, rfl, hP, k⟩ := h
    obtain ⟨dx, lh, lk, ks, h1, h2, h3, h4, h5, h6, n1, n6, hw, hc⟩ := id hP
    have hr4 : Room 4 _ := hr.mono (by decide)
    refine ⟨_, pss_one (ps_ret (pe_make M (ok_init N S) hr4 rfl S.T.mgC bN .nil pass0 (pa_cons
        (pe_lc (own := [("word", 1)]) (g := gName 1) (tt := tYes) (te := tMeth C "said" (spSaid C) [] E0 (tVar 0) (tCons (tVar 1) tNil)) rfl scTabP.nd (pi_range1 (by rfl) S.B.range (pa_cons (pe_fld (pv 0) rfl) pa_nil)) (blkOk_by (own := [("word", 1)]) (N := ["self", "word"]) (sc := defScope sTabP) (by decide +kernel))
          (fun _ _ _ _ _ => pg_name (i := 1) scTabP.nd rfl (Or.inl rfl)) (fun _ _ _ _ _ => pts_nil) (fun _ _ _ _ _ => pe_meth (pv 0) T.cl mE (ok_said E' S T G mG bG) hr4 bE .nil pass0 (pa_cons (pv 1) pa_nil))) pa_nil))), ?_⟩
    have cP := pT_can hc h6 hw
    refine ⟨_, rfl, p, C, dx, _, _, rfl, h1, T.cl, T.nS, pf_size _ _ _, ws.length, rfl, by omega, by omega, fun D hD => ?_⟩
    refine lc_range (lo := 0) (n := ws.length) (fun i H' => Same H H' ∧ ∃ ks, H' D = some (.lst ks) ∧ RowsL H' ks ((pT ws L).take i) ∧ ∀ v ∈ ks, v ≠ .ref D) ⟨Same.new hD, [], upd_same, .nil, fun _ h => by cases h⟩ ?_ ?_
    · rintro i H2 hi ⟨s2, ks2, hk, hKs, nD⟩
      have e0 : (0 : Int) + (i : Int) = (i : Int) := Int.zero_add _
      rw [e0]
      obtain ⟨y, hy⟩ : ∃ y, ws[i]? = some y := ⟨_, List.getElem?_eq_getElem hi⟩
      refine ⟨rfl, yesT (iteT ?_)⟩
      refine ⟨_, rfl, p, dx, _, rfl, s2 _ _ h1, pf_said _ _ _, _, rfl, p, ws, L, i, y, rfl, hP.same s2, hy, fun H3 d s3 d0 hd => ?_⟩
      have nDd : d ≠ D := (ne_of_none hk d0).symm
      obtain ⟨z1, z2⟩ := RowsL.snoc (o := .lst (ks2 ++ [.ref d])) (RowsL.same s3 hKs) nD hd nDd
      refine ⟨ks2, s3 _ _ hk, ?_, Same.updN (s2.trans s3) hD, ks2 ++ [.ref d], upd_same, ?_, z2⟩
      · rw [Paired.length hKs]
        exact Nat.lt_of_le_of_lt (Nat.le_trans (List.length_take_le _ _) (by omega : i ≤ 6)) (by decide)
      · rw [take_more (pT_at hy)]
        exact z1
    · rintro H2 ⟨s2, ks2, hk, hKs, _⟩
      rw [← pT_len (ws := ws) (L := L), List.take_length] at hKs
      exact init_of hk hKs cP n1 n6 fun H6 x s6 x0 Tx => k H6 x (s2.trans s6) (s2.free x0) Tx
end
end Toy
namespace Toy
open PySem PySem.Spec PyProof.Rows L2
section
variable {P : Program} {w : World} {K : PySem.W.Frag} {mg : Str → Option Value} {base : Heap}
def spWordBad (c : Addr) : Sp := fun vs H _ E => ∃ (x : Int) (n : Nat), vs = [.int x, .int n] ∧ isW n x = false ∧ Pr (.int x) ∧ Boom c [("word", .int x)] H E
theorem ok_checkWordX {f g c : Addr} {fd fdg : FuncData} (F : Fun K "check_word" "check_word" sCheckWord f fd) (G : Fun K "is_word" "is_word" sIsWord g fdg) (mgG : mg "is_word" = some (.ref g)) (bG : Binds K fdg ["word", "size"] []) (RU : Er P K mg "UnknownWord" ["word"] c) :
    FnOk P w K mg base (L2N.CX P w) 3 f fd ["word", "size"] (fun vs H Q E => spCheckWord vs H Q E ∨ spWordBad c vs H Q E) := by
  refine ((ok_checkWord F G mgG bG).free.mono (by decide)).or (F.okN scCheckWord (fun vs H Q E h => ?_) (fun cdv A outer s H vs Q E hr h => ?_))
  · obtain ⟨x, n, rfl, _⟩ := h
    rfl
  · obtain ⟨x, n, rfl, hn, pr, boom⟩ := h
    have hr1 : Room 1 _ := hr.mono (by decide)
    refine ⟨_, pss_one (ps_if (pt_not (pt_val (pe_call (ok_isWord G) hr1 rfl mgG G.kp bG .nil pass0 (pa_cons (pv 0) (pa_cons (pv 1) pa_nil))))) (pss_one (ps_raiseEr rfl RU hr (L2N.takes_of rfl rfl rfl rfl) (pa_cons (pv 0) pa_nil))) pss_nil), ?_⟩
    refine ⟨_, rfl, _, rfl, x, n, rfl, _, rfl, ?_⟩
    rw [hn]
    refine iteT ⟨_, rfl, rfl, fun v hv => ?_, fun d hd => boom _ d (Same.new hd) hd upd_same⟩
    cases List.mem_singleton.mp hv
    exact pr
def spHeardBad (C c : Addr) : Sp := fun vs H _ E => ∃ (p : Addr) (ws : List Int) (L : List (List Int)) (x : Int), vs = [.ref p, .int x] ∧ Per C H p ws L ∧ isW ws.length x = false ∧ Pr (.int x) ∧ Boom c [("word", .int x)] H E
theorem ok_heardX {f C Ct c : Addr} {fd : FuncData} (F : Fun K "heard" "Person.heard" sHeard f fd) (S : Gs K mg Ct) (T : PT K mg C) (RU : Er P K mg "UnknownWord" ["word"] c) : FnOk P w K mg base (L2N.CX P w) 4 f fd ["self", "word"] (fun vs H Q E => spHeard C vs H Q E ∨ spHeardBad C c vs H Q E) := by
  refine ((ok_heard F S T).free.mono (by decide)).or ?_
  obtain ⟨fW, fdW, FW, mW, bW⟩ := S.isW_
  obtain ⟨fC, fdC, FC, mC, bC⟩ := S.chW
  refine F.okN scHeard (fun vs H Q E h => ?_) (fun cdv A outer s H vs Q E hr h => ?_)
  · obtain ⟨p, ws, L, x, rfl, _⟩ := h
    rfl
  · obtain ⟨p, ws, L, x, rfl, hP, bad, pr, boom⟩ := h
    obtain ⟨dx, lh, lk, ks, h1, _⟩ := id hP
    refine ⟨_, pss_cons (ps_expr (pe_call (ok_checkWordX FC FW mW bW RU) hr rfl mC FC.kp bC .nil (passUp (L2N.takes_of rfl rfl rfl rfl)) (pa_cons (pv 1) (pa_cons (pe_fld (pv 0) rfl) pa_nil)))) pss_never, ?_⟩
    exact ⟨_, rfl, _, rfl, p, C, dx, _, _, rfl, h1, T.cl, T.nS, pf_size _ _ _, .inr ⟨x, ws.length, rfl, bad, pr, boom⟩⟩
theorem ok_saidX {f g C Ct c : Addr} {fd fdg : FuncData} (F : Fun K "said" "Person.said" sSaid f fd) (S : Gs K mg Ct) (T : PT K mg C) (G : Fun K "heard" "Person.heard" sHeard g fdg) (mG : Meth K C "heard" g) (bG : Binds K fdg ["self", "word"] []) (RU : Er P K mg "UnknownWord" ["word"] c) :
    FnOk P w K mg base (L2N.CX P w) 5 f fd ["self", "word"] (fun vs H Q E => spSaid C vs H Q E ∨ spHeardBad C c vs H Q E) := by
  refine ((ok_said F S T G mG bG).free.mono (by decide)).or ?_
  refine F.okN scSaid (fun vs H Q E h => ?_) (fun cdv A outer s H vs Q E hr h => ?_)
  · obtain ⟨p, ws, L, x, rfl, _⟩ := h
    rfl
  · obtain ⟨p, ws, L, x, rfl, hP, bad, pr, boom⟩ := h
    obtain ⟨dx, lh, lk, ks, h1, _⟩ := id hP
    refine ⟨_, pss_one (ps_ret (pe_callTy call_list_of (by rfl) S.B.list (by decide +kernel) (pa_cons (pe_ix ix_list (pe_fld (pv 0) rfl) (pe_meth (pv 0) T.cl mG (ok_heardX G S T RU) hr bG .nil (passUp (L2N.takes_of rfl rfl rfl rfl)) (pa_cons (pv 1) pa_nil)) (fun _ _ => rfl)) pa_nil))), ?_⟩
    exact ⟨_, rfl, p, C, dx, _, _, rfl, h1, T.cl, T.nY, pf_says _ _ _, _, rfl, p, dx, _, rfl, h1, pf_heard _ _ _, _, rfl, .inr ⟨p, ws, L, x, rfl, hP, bad, pr, boom⟩⟩
abbrev sWErr : Stmt := top 45
def spWErr (C : Addr) : Sp := fun vs H Q _ => ∃ (i : Nat) (p : Addr) (ws : List Int) (L : List (List Int)) (x : Int), vs = [.int i, .ref p, .int x] ∧ i < 2 ∧ Per C H p ws L ∧ ((isW ws.length x = true ∧ NewL H Q []) ∨ (isW ws.length x = false ∧ Pr (.int x) ∧ NewL H Q [.int x, .bl true]))
theorem scWErr : FnScope ["_law_which", "_law_person_here", "_law_word", "_law_e"] ["_law_which", "_law_person_here", "_law_word"] (defScope sWErr) := ⟨rfl, rfl, rfl, by decide +kernel, rfl, by decide +kernel, by decide +kernel⟩
theorem ok_wErr {f g e C Ct : Addr} {fd fdg fde : FuncData} {r : Errs} (F : Fun K "_law_word_error" "_law_word_error" sWErr f fd) (S : Gs K mg Ct) (T : PT K mg C) (G : Fun K "heard" "Person.heard" sHeard g fdg) (mG : Meth K C "heard" g) (bG : Binds K fdg ["self", "word"] [])
    (E' : Fun K "said" "Person.said" sSaid e fde) (mE : Meth K C "said" e) (bE : Binds K fde ["self", "word"] []) (h : Hk P K mg r) (RU : ErX P K mg r "UnknownWord" ["word"] r.c2) (x22 : PySem.W.exmOne K (.ref r.c2) (.ref r.c2) = some true) :
    FnOk P w K mg base CX0 6 f fd ["_law_which", "_law_person_here", "_law_word"] (spWErr C) := by
  obtain ⟨fg, fdg', FG, mSg, bSg⟩ := h.single
  refine F.ok scWErr (fun vs H Q E h => ?_) (fun cdv A outer s H vs Q E hr hh => ?_)
  · obtain ⟨i, p, ws, L, x, rfl, _⟩ := h
    rfl
  · obtain ⟨i, p, ws, L, x, rfl, hi, hP, why⟩ := hh
    have hr1 : Room 1 _ := hr.mono (by decide)
    have hr4 : Room 4 _ := hr.mono (by decide)
    have hr5 : Room 5 _ := hr.mono (by decide)
    refine ⟨_, pss_cons (L2N.ps_try_clauses (i := 3) rfl rfl scWErr.nd rfl rfl takesF (fun W pn xe tk _ => pss_one (ps_if (pt_cmpR op_eq (pv 0) pe_int (nomark _))
          (pss_one (ps_expr (pe_meth (pv 1) T.cl mG (ok_heardX G S T RU.er) hr4 bG .nil (passTry 4 tk) (pa_cons (pv 2) pa_nil))))
          (pss_one (ps_expr (pe_meth (pv 1) T.cl mE (ok_saidX E' S T G mG bG RU.er) hr5 bE .nil (passTry 4 tk) (pa_cons (pv 2) pa_nil))))))
        (.cons ⟨rfl, by decide, .inl h.G.e2⟩ (fun a oe cls d pn hz hf => pss_one (ps_ret (pe_lst (pa_cons (pe_xf RU.xf (RU.no _ (by simp)) hz.zc hf (pv 3)) (pa_cons (pe_single 3 (ok_single FG h.G) hr1 hz hf mSg FG.kp bSg) pa_nil)))))
        .nil))
      (pss_one (ps_ret (pe_lst pa_nil))), ?_⟩
    obtain ⟨dx, lh, lk, ks, h1, _, _, _, _, _, _, _, hw, _⟩ := id hP
    have back : NewL H Q [] → ∀ {H1 : Hp}, Same H H1 → ([] : List V).length ≤ sizeLine ∧ ∀ q2, H1 q2 = none → Q (.ref q2) (upd H1 q2 (.lst [])) := fun k {H1} s1 => ⟨Nat.zero_le _, fun q2 hq2 => k _ q2 (s1.trans (Same.new hq2)) (s1.free hq2) upd_same⟩
    rcases why with ⟨good, k⟩ | ⟨bad, pr, k⟩
    · obtain ⟨j, rfl, hj⟩ := isW_at good
      obtain ⟨y, hy⟩ : ∃ y, ws[j]? = some y := ⟨_, List.getElem?_eq_getElem hj⟩
      match i, hi with
      | 0, _ => exact ⟨_, rfl, rfl, _, rfl, iteT ⟨_, rfl, p, dx, _, rfl, h1, pf_heard _ _ _, _, rfl, .inl ⟨p, ws, L, j, y, rfl, hP, hy, back k (Same.refl H)⟩⟩⟩
      | 1, _ => exact ⟨_, rfl, rfl, _, rfl, iteF ⟨_, rfl, p, dx, _, rfl, h1, pf_said _ _ _, _, rfl, .inl ⟨p, ws, L, j, y, rfl, hP, hy, fun H1 l s1 _ _ => back k s1⟩⟩⟩
    · have boom : ∀ {σ' : L2.St} {Hx : Hp}, True := fun {_ _} => trivial
      match i, hi with
      | 0, _ => exact ⟨_, rfl, rfl, _, rfl, iteT ⟨_, rfl, p, dx, _, rfl, h1, pf_heard _ _ _, _, rfl, .inr ⟨p, ws, L, x, rfl, hP, bad, pr, fun H2 d s2 d0 hd σ hσ => ⟨true, x22, iteT fun a _ =>
          ⟨_, slot_set hσ (by decide), rfl, rfl, d, _, _, rfl, hd, rfl, slot_set hσ (by decide), r.c2, d, _, rfl, rfl, RU.kit, hd, fun H3 s3 => ⟨by show 2 ≤ sizeLine; decide, fun q hq => k _ q ((s2.trans s3).trans (Same.new hq)) ((s2.trans s3).free hq) upd_same⟩⟩⟩⟩⟩⟩
      | 1, _ => exact ⟨_, rfl, rfl, _, rfl, iteF ⟨_, rfl, p, dx, _, rfl, h1, pf_said _ _ _, _, rfl, .inr ⟨p, ws, L, x, rfl, hP, bad, pr, fun H2 d s2 d0 hd σ hσ => ⟨true, x22, iteT fun a _ =>
          ⟨_, slot_set hσ (by decide), rfl, rfl, d, _, _, rfl, hd, rfl, slot_set hσ (by decide), r.c2, d, _, rfl, rfl, RU.kit, hd, fun H3 s3 => ⟨by show 2 ≤ sizeLine; decide, fun q hq => k _ q ((s2.trans s3).trans (Same.new hq)) ((s2.trans s3).free hq) upd_same⟩⟩⟩⟩⟩⟩
end
end Toy
namespace Toy
open PySem PySem.Spec PyProof.Rows L2
def p2 : Nat → Int
  | 0 => 1
  | 1 => 2
  | 2 => 4
  | 3 => 8
  | 4 => 16
  | 5 => 32
  | _ => 64
theorem six' : ∀ i : Nat, i < 6 → ∃ d : Int, ([V.int 1, V.int 2, V.int 4, V.int 8, V.int 16, V.int 32] : List V)[i]? = some (.int d) ∧ 0 < d ∧ d < 1073741824 ∧ d = p2 i
  | 0, _ => ⟨1, rfl, by decide, by decide, rfl⟩
  | 1, _ => ⟨2, rfl, by decide, by decide, rfl⟩
  | 2, _ => ⟨4, rfl, by decide, by decide, rfl⟩
  | 3, _ => ⟨8, rfl, by decide, by decide, rfl⟩
  | 4, _ => ⟨16, rfl, by decide, by decide, rfl⟩
  | 5, _ => ⟨32, rfl, by decide, by decide, rfl⟩
  | i + 6, h => by omega
theorem seven' : ∀ i : Nat, 1 ≤ i → i ≤ 6 → ∃ d : Int, ([V.int 1, V.int 2, V.int 4, V.int 8, V.int 16, V.int 32, V.int 64] : List V)[i]? = some (.int d) ∧ 2 ≤ d ∧ d ≤ 64 ∧ d = p2 i
  | 0, h, _ => by omega
  | 1, _, _ => ⟨2, rfl, by decide, by decide, rfl⟩
  | 2, _, _ => ⟨4, rfl, by decide, by decide, rfl⟩
  | 3, _, _ => ⟨8, rfl, by decide, by decide, rfl⟩
  | 4, _, _ => ⟨16, rfl, by decide, by decide, rfl⟩
  | 5, _, _ => ⟨32, rfl, by decide, by decide, rfl⟩
  | 6, _, _ => ⟨64, rfl, by decide, by decide, rfl⟩
  | i + 7, _, h => by omega
theorem bit_step (v : Int) : ∀ i : Nat, i < 6 → v % p2 i = 0 → ¬ (v / p2 i % 2 = 1) → v % p2 (i + 1) = 0
  | 0, _, h1, h2 => by
    have h1 : v % (1 : Int) = 0 := h1
    have h2 : ¬ (v / (1 : Int) % 2 = 1) := h2
    show v % (2 : Int) = 0
    omega
  | 1, _, h1, h2 => by
    have h1 : v % (2 : Int) = 0 := h1
    have h2 : ¬ (v / (2 : Int) % 2 = 1) := h2
    show v % (4 : Int) = 0
    omega
  | 2, _, h1, h2 => by
    have h1 : v % (4 : Int) = 0 := h1
    have h2 : ¬ (v / (4 : Int) % 2 = 1) := h2
    show v % (8 : Int) = 0
    omega
  | 3, _, h1, h2 => by
    have h1 : v % (8 : Int) = 0 := h1
    have h2 : ¬ (v / (8 : Int) % 2 = 1) := h2
    show v % (16 : Int) = 0
    omega
  | 4, _, h1, h2 => by
    have h1 : v % (16 : Int) = 0 := h1
    have h2 : ¬ (v / (16 : Int) % 2 = 1) := h2
    show v % (32 : Int) = 0
    omega
  | 5, _, h1, h2 => by
    have h1 : v % (32 : Int) = 0 := h1
    have h2 : ¬ (v / (32 : Int) % 2 = 1) := h2
    show v % (64 : Int) = 0
    omega
  | i + 6, h, _, _ => by omega
theorem RowsL.offB {H : Hp} {b c : Addr} {ls : List V} {R} (h : RowsL H ls R) (hb : BoxAt H b c) : RowsL (off b H) ls R :=
  L2.Paired.mapP h fun _ r ⟨t, e, q⟩ => ⟨t, e, by
    obtain ⟨cs, i, pd, st, eb, _⟩ := hb
    rw [off_ne]
    · exact q
    · intro z
      rw [z, eb] at q
      have e : [V.ref c, .int i, .int pd, .int st] = vI r := HO.lst.inj (Option.some.inj q)
      cases r with
      | nil => cases e
      | cons x xs => cases e⟩
def spWords1 : Sp := fun vs H Q _ => ∃ (b c : Addr) (n : Nat) (least : Int), vs = [.ref b, .int n, .int least] ∧ BoxAt H b c ∧ 1 ≤ n ∧ n ≤ 6 ∧ 0 ≤ least ∧ least ≤ 1 ∧
  ∀ H' l ws, BoxAt H' b c → Same (off b H) (off b H') → off b H l = none → off b H' l = some (.lst (vI ws)) → Can n ws → (least = 1 → ws ≠ []) → Q (.ref l) H'
abbrev sOuts : Stmt := top 38
abbrev sPersonL : Stmt := top 39
/-- words that can be said -/
def Good (n : Nat) (g : List Int) : Prop := 1 ≤ g.length ∧ g.length ≤ 7 ∧ g.all (isW n) = true
def spOuts : Sp := fun vs H Q _ => ∃ (b c : Addr) (n : Nat), vs = [.ref b, .int n] ∧ BoxAt H b c ∧ 1 ≤ n ∧ n ≤ 6 ∧
  ∀ H' l ws, BoxAt H' b c → Same (off b H) (off b H') → off b H l = none → off b H' l = some (.lst (vI ws)) → Good n ws → Q (.ref l) H'
def spPersonL : Sp := fun vs H Q _ => ∃ (b c : Addr) (n : Nat), vs = [.ref b, .int n] ∧ BoxAt H b c ∧ 1 ≤ n ∧ n ≤ 6 ∧
  ∀ H' q l1 l2 l3 hs G ls rs, BoxAt H' b c → Same (off b H) (off b H') → off b H' q = some (.lst [.ref l1, .ref l2, .ref l3]) → off b H' l1 = some (.lst (vI hs)) → off b H' l2 = some (.lst ls) → RowsL (off b H') ls G →
    off b H' l3 = some (.lst rs) → RowsL (off b H') rs (pT hs (G.map fun g => asc g n)) → hs.length = n → hs.all (isW n) = true → G.length = n → (∀ g ∈ G, Good n g) → Q (.ref q) H'
def up (n : Nat) : List Int := (List.range n).map fun (i : Nat) => (i : Int)
theorem isW_of {n : Nat} {x : Int} (h : 0 ≤ x ∧ x < (n : Int)) : isW n x = true := by
  unfold isW
  rw [decide_eq_true h.1, decide_eq_true h.2]
  rfl
theorem rg_up (n : Nat) : rgV 0 (n : Int) = vI (up n) := by
  unfold rgV vI up
  rw [List.map_map, Int.sub_zero, Int.toNat_natCast]
  refine List.map_congr_left fun i _ => ?_
  show V.int (0 + (i : Int)) = V.int (i : Int)
  rw [Int.zero_add]
theorem up_len (n : Nat) : (up n).length = n := by unfold up; rw [List.length_map, List.length_range]
theorem up_all (n : Nat) : (up n).all (isW n) = true := List.all_eq_true.mpr fun x hx => by
  unfold up at hx
  obtain ⟨i, hi, rfl⟩ := List.mem_map.mp hx
  rw [isWn, decide_eq_true (List.mem_range.mp hi)]
theorem all_add {n : Nat} {ws : List Int} {r : Nat} (h : ws.all (isW n) = true) (hr : r < n) : (ws ++ [(r : Int)]).all (isW n) = true := by
  rw [List.all_append, h]
  show (isW n (r : Int) && true) = true
  rw [isWn, decide_eq_true hr]
  rfl
theorem vI_add {ws : List Int} {x : Int} : vI ws ++ [V.int x] = vI (ws ++ [x]) := by
  unfold vI
  rw [List.map_append]
  rfl
theorem rowT {hs : List Int} {G : List (List Int)} {n i j : Nat} (hy : hs[i]? = some (j : Int)) (hj : j < G.length) : (pT hs (G.map fun g => asc g n))[i]? = some (filt n fun o => decide ((o : Int) ∈ row G j)) := by
  rw [pT_at hy, Int.toNat_natCast]
  have e : row (G.map fun g => asc g n) j = asc (row G j) n := map_row hj
  rw [e]
  rfl
section
variable {P : Program} {w : World} {K : PySem.W.Frag} {mg : Str → Option Value} {base : Heap}
theorem ok_words1 {f : Addr} {fd : FuncData} (F : Fun K "_law_words" "_law_words" sWords f fd) (S : Lt K mg) : FnOk P w K mg base CX0 2 f fd ["_law_box_here", "_law_n", "_law_least"] spWords1 := by
  obtain ⟨fT, fdT, FT, mT, bT⟩ := S.take
  refine F.ok scWords (fun vs H Q E h => ?_) (fun cdv A outer s H vs Q E hr h => ?_)
  · obtain ⟨b, c, n, least, rfl, _⟩ := h
    rfl
  · obtain ⟨b, c, n, least, rfl, hb, n1, n6, l0, l1, k⟩ := h
    refine ⟨_, pss_cons (ps_set (i := 3) scWords.nd rfl (Or.inr rfl) (pe_op op_add (pv 2) (pe_call (ok_take FT S.B) hr rfl mT FT.kp bT .nil pass0 (pa_cons (pv 0) (pa_cons (pe_op op_sub
        (pe_ix ix_list (pe_lst (pa_cons pe_int (pa_cons pe_int (pa_cons pe_int (pa_cons pe_int (pa_cons pe_int (pa_cons pe_int (pa_cons pe_int pa_nil)))))))) (pv 1) (fun _ _ => rfl)) (pv 2)) pa_nil)))))
      (pss_one (ps_ret (pe_lc (own := [("_law_word", 4)]) (g := gName 4)
          (tt := tTest (tOp rEq (tOp (rI (fun _ j => 0 < j) fun i j => .int (i % j)) (tCB (fun xs H Q => (∃ i, xs = [.int i] ∧ Q (.int i) H) ∨ ∃ k, xs = [.bl k] ∧ Q (.int (if k then 1 else 0)) H) (tCons (tOp (rI CDiv fun i j => .int (i / j)) (tVar 3)
            (tOp (rIxL K) (tLst (tCons (tC (.int 1)) (tCons (tC (.int 2)) (tCons (tC (.int 4)) (tCons (tC (.int 8)) (tCons (tC (.int 16)) (tCons (tC (.int 32)) tNil))))))) (tVar 4))) tNil)) (tC (.int 2))) (tC (.int 1))))
          rfl scWords.nd (pi_range1 (by rfl) S.B.range (pa_cons (pv 1) pa_nil)) (blkOk_by (own := [("_law_word", 4)]) (N := ["_law_box_here", "_law_n", "_law_least", "_law_mask", "_law_word"]) (sc := defScope sWords) (by decide +kernel))
          (fun _ _ _ _ _ => pg_name (i := 4) scWords.nd rfl (Or.inl rfl))
          (fun _ _ _ _ _ => pts_one (pt_cmpR op_eq (pe_op op_mod (pe_callTy call_int1 (by rfl) S.B.int (by decide +kernel) (pa_cons (pe_op op_fdiv (pv 3)
            (pe_ix ix_list (pe_lst (pa_cons pe_int (pa_cons pe_int (pa_cons pe_int (pa_cons pe_int (pa_cons pe_int (pa_cons pe_int pa_nil))))))) (pv 4) (fun _ _ => rfl))) pa_nil)) pe_int) pe_int (nomark _)))
          (fun _ _ _ _ _ => pv 4)))), ?_⟩
    obtain ⟨d, hd, d2, d64, dp⟩ := seven' n n1 n6
    refine ⟨_, rfl, _, rfl, by show 7 ≤ sizeLine; decide, fun p hp => ?_⟩
    refine ⟨_, rfl, p, _, n, _, rfl, rfl, SqL.of upd_same, atI_nat hd, _, rfl, _, _, rfl, rfl, ?_⟩
    have pb := hb.ne hp
    have s0 := Same.new (H := H) (o := .lst [V.int 1, V.int 2, V.int 4, V.int 8, V.int 16, V.int 32, V.int 64]) hp
    refine ⟨b, c, d - least, rfl, hb.same s0, by omega, by omega, fun r H1 hr1 hb1 so1 => ?_⟩
    refine ⟨_, _, rfl, rfl, ?_⟩
    have so := L2.Same.trans (Same.off (b := b) s0) so1
    refine ⟨_, rfl, n, rfl, by omega, by omega, fun D hD => ?_⟩
    have nDb := hb1.ne hD
    have hDo : off b H D = none := so.free (off_free hD)
    refine lc_range (lo := 0) (n := n) (fun i H' => Same H1 H' ∧ ∃ ws, H' D = some (.lst (vI ws)) ∧ Can i ws ∧ (ws = [] → (least + (r : Int)) % p2 i = 0)) ⟨Same.new hD, [], upd_same, .nil, fun _ => by show _ % (1 : Int) = 0; omega⟩ ?_ ?_
    · rintro i H2 hi ⟨s2, ws, hd2, hc, hz⟩
      obtain ⟨e, he, e0, e1, ep⟩ := six' i (by omega)
      refine ⟨rfl, ?_⟩
      refine ⟨_, rfl, by show 6 ≤ sizeLine; decide, fun q hq => ?_⟩
      have nDq : D ≠ q := ne_of_none hd2 hq
      have s3 := Same.new (H := H2) (o := .lst [V.int 1, V.int 2, V.int 4, V.int 8, V.int 16, V.int 32]) hq
      refine ⟨_, rfl, q, _, _, _, rfl, rfl, SqL.of upd_same, at_of (j := i) (by omega) he, _, _, rfl, rfl, ⟨e0, e1⟩, .inl ⟨_, rfl, _, _, rfl, rfl, (by show (0 : Int) < 2; decide), rfl, _, rfl, ?_⟩⟩
      refine ite2 (fun _ => ?_) (fun no => ?_)
      · refine ⟨_, rfl, _, s3 _ _ hd2, ?_, Same.updN (s2.trans s3) hD, ws ++ [(i : Int)], ?_, hc.add, fun z => absurd z (by simp)⟩
        · rw [vI_len]
          exact Nat.lt_of_le_of_lt (Nat.le_trans hc.len (by omega : i ≤ 6)) (by decide)
        · rw [upd_same]
          unfold vI
          rw [List.map_append, Int.zero_add]
          rfl
      · exact ⟨s2.trans s3, ws, s3 _ _ hd2, hc.skip, fun z => bit_step _ i (by omega) (hz z) (by rw [← ep]; intro q; exact no (decide_eq_true (congrArg V.int q)))⟩
    · rintro H2 ⟨s2, ws, hd2, hc, hz⟩
      exact k H2 D ws (hb1.same s2) (so.trans (Same.off s2)) hDo (by rw [off_ne nDb]; exact hd2) hc fun e1 z => by
        have h0 := hz z
        rw [← dp, Int.emod_eq_of_lt (by omega) (by omega)] at h0
        omega
abbrev NOu : List Str := ["_law_box_here", "_law_n", "_law_kind", "_law_outs_here"]
theorem scOuts : FnScope NOu ["_law_box_here", "_law_n"] (defScope sOuts) := ⟨rfl, rfl, rfl, by decide +kernel, rfl, by decide +kernel, by decide +kernel⟩
theorem ok_outs {f : Addr} {fd : FuncData} (F : Fun K "_law_outs" "_law_outs" sOuts f fd) (S : Lt K mg) : FnOk P w K mg base CX0 3 f fd ["_law_box_here", "_law_n"] spOuts := by
  obtain ⟨fT, fdT, FT, mT, bT⟩ := S.take
  obtain ⟨fW, fdW, FW, mW, bW⟩ := S.words
  refine F.ok scOuts (fun vs H Q E h => ?_) (fun cdv A outer s H vs Q E hr h => ?_)
  · obtain ⟨b, c, n, rfl, _⟩ := h
    rfl
  · obtain ⟨b, c, n, rfl, hb, n1, n6, k⟩ := h
    have hr1 : Room 1 _ := hr.mono (by decide)
    refine ⟨_, pss_cons (ps_set (i := 2) scOuts.nd rfl (Or.inl rfl) (pe_call (ok_take FT S.B) hr1 rfl mT FT.kp bT .nil pass0 (pa_cons (pv 0) (pa_cons pe_int pa_nil))))
      (pss_cons (ps_if (pt_cmpR op_eq (pv 2) pe_int (nomark _)) (pss_one (ps_ret (pe_call (ok_words1 FW S) hr rfl mW FW.kp bW .nil pass0 (pa_cons (pv 0) (pa_cons (pv 1) (pa_cons pe_int pa_nil)))))) pss_nil)
      (pss_cons (ps_set (i := 3) scOuts.nd rfl (Or.inl rfl) (pe_lst (pa_cons (pe_call (ok_take FT S.B) hr1 rfl mT FT.kp bT .nil pass0 (pa_cons (pv 0) (pa_cons (pv 1) pa_nil))) pa_nil)))
      (C8.pss_cut (ps_if (pt_cmpR op_eq (pv 2) pe_int (nomark _)) (pss_one (ps_expr (pe_bm PySem.F.plainAttrs_list PySem.F.slot_list_append PySem.F.type_list_append mt_append (pv 3) (pa_cons (pe_call (ok_take FT S.B) hr1 rfl mT FT.kp bT .nil pass0 (pa_cons (pv 0) (pa_cons (pv 1) pa_nil))) pa_nil)))) pss_nil)
      (pss_one (ps_ret (pv 3)))))), ?_⟩
    refine ⟨_, rfl, b, c, 4, rfl, hb, by decide, by decide, fun kd H1 hk hb1 s1 => ?_⟩
    refine ⟨_, rfl, rfl, _, rfl, ite2 (fun _ => ?_) (fun _ => ?_)⟩
    · refine ⟨_, rfl, _, rfl, b, c, n, 1, rfl, hb1, n1, n6, by decide, by decide, fun H2 l ws hb2 s2 l0 hl hc ne => ?_⟩
      refine k H2 l ws hb2 (s1.trans s2) (s1.free l0) hl ⟨?_, Nat.le_trans hc.len (by omega), List.all_eq_true.mpr fun x hx => isW_of (hc.mem hx)⟩
      cases ws with
      | nil => exact absurd rfl (ne rfl)
      | cons x r => simp
    · refine ⟨_, rfl, _, rfl, b, c, (n : Int), rfl, hb1, by omega, by omega, fun r1 H2 hr1' hb2 s2 => ⟨by show 1 ≤ sizeLine; decide, fun q hq => ?_⟩⟩
      have qb := hb2.ne hq
      have qc := hb2.nec hq
      have q0 : off b H q = none := (s1.trans s2).free (off_free hq)
      have s3 : Same (off b H2) (off b (upd H2 q (.lst [V.int (r1 : Int)]))) := Same.off (Same.new hq)
      have hb3 := hb2.same (Same.new (o := .lst [V.int (r1 : Int)]) hq)
      have hq3 : off b (upd H2 q (.lst [V.int (r1 : Int)])) q = some (.lst (vI [(r1 : Int)])) := by rw [off_ne qb]; exact upd_same
      have s13 := s1.trans (s2.trans s3)
      generalize upd H2 q (.lst [V.int (r1 : Int)]) = H3 at s3 hb3 hq3 s13
      refine ⟨fun σ' H' => ∃ ws, σ' = [some (.ref b), some (.int n), some (.int kd), some (.ref q)] ∧ BoxAt H' b c ∧ Same (off b H) (off b H') ∧ off b H' q = some (.lst (vI ws)) ∧ Good n ws, ?_, ?_⟩
      · have g1 : Good n [(r1 : Int)] := ⟨by simp, by simp, by simpa using all_add (ws := []) rfl (by omega : r1 < n)⟩
        refine ⟨_, rfl, rfl, _, rfl, ite2 (fun _ => ?_) (fun _ => ⟨_, rfl, hb3, s13, hq3, g1⟩)⟩
        refine ⟨_, rfl, .inl ⟨rfl, _, SqL.of (off_le _ _ hq3)⟩, _, rfl, _, rfl, b, c, (n : Int), rfl, hb3, by omega, by omega, fun r H4 hr4 hb4 s4 => ?_⟩
        refine ⟨q, vI [(r1 : Int)], _, rfl, rfl, off_le _ _ (s4 _ _ hq3), by show 1 < sizeLine; decide, [(r1 : Int), (r : Int)], rfl, hb4.upd qb qc, ?_, ?_, by simp, by simp, ?_⟩
        · rw [off_updN qb]
          exact Same.updN (s13.trans s4) q0
        · rw [off_updN qb]
          exact upd_same
        · exact all_add (ws := [(r1 : Int)]) g1.2.2 (by omega)
      · rintro σ' H4 ⟨ws, rfl, hb4, s4, hq4, g⟩
        exact ⟨_, rfl, k H4 q ws hb4 s4 q0 hq4 g⟩
abbrev NPl : List Str := ["_law_box_here", "_law_n", "_law_hears", "_law_says", "_law_rows", "_law_word", "_law_k", "_law_out"]
theorem scPersonL : FnScope NPl ["_law_box_here", "_law_n"] (defScope sPersonL) := ⟨rfl, rfl, rfl, by decide +kernel, rfl, by decide +kernel, by decide +kernel⟩
theorem ok_personL {f o : Addr} {fd fdo : FuncData} (F : Fun K "_law_person" "_law_person" sPersonL f fd) (S : Lt K mg) (FO : Fun K "_law_outs" "_law_outs" sOuts o fdo) (mO : mg "_law_outs" = some (.ref o)) (bO : Binds K fdo ["_law_box_here", "_law_n"] []) : FnOk P w K mg base CX0 4 f fd ["_law_box_here", "_law_n"] spPersonL := by
  obtain ⟨fT, fdT, FT, mT, bT⟩ := S.take
  refine F.ok scPersonL (fun vs H Q E h => ?_) (fun cdv A outer s H vs Q E hr h => ?_)
  · obtain ⟨b, c, n, rfl, _⟩ := h
    rfl
  · obtain ⟨b, c, n, rfl, hb, n1, n6, k⟩ := h
    have hr1 : Room 1 _ := hr.mono (by decide)
    have hr3 : Room 3 _ := hr.mono (by decide)
    refine ⟨_, pss_cons (ps_set (i := 2) scPersonL.nd rfl (Or.inr rfl) (pe_listRg rfl (by rfl) S.B.list (prg_1 (by rfl) S.B.range (pv 1))))
      (C8.pss_cut (ps_if (pt_cmpR op_eq (pe_call (ok_take FT S.B) hr1 rfl mT FT.kp bT .nil pass0 (pa_cons (pv 0) (pa_cons pe_int pa_nil))) pe_int (nomark _))
        (pss_one (ps_set (i := 2) scPersonL.nd rfl (Or.inr rfl) (pe_lc (own := [("_law_k", 6)]) (g := gName 6) (tt := tYes) (te := tCall spTake [] E0 (tCons (tVar 0) (tCons (tVar 1) tNil))) rfl scPersonL.nd (pi_range1 (by rfl) S.B.range (pa_cons (pv 1) pa_nil)) (blkOk_by (own := [("_law_k", 6)]) (N := NPl) (sc := defScope sPersonL) (by decide +kernel))
          (fun _ _ _ _ _ => pg_name (i := 6) scPersonL.nd rfl (Or.inl rfl)) (fun _ _ _ _ _ => pts_nil) (fun _ _ _ _ _ => pe_call (ok_take FT S.B) hr1 rfl mT FT.kp bT .nil pass0 (pa_cons (pv 0) (pa_cons (pv 1) pa_nil)))))) pss_nil)
      (pss_cons (ps_set (i := 3) scPersonL.nd rfl (Or.inr rfl) (pe_lc (own := [("_law_k", 6)]) (g := gName 6) (tt := tYes) (te := tCall spOuts [] E0 (tCons (tVar 0) (tCons (tVar 1) tNil))) rfl scPersonL.nd (pi_range1 (by rfl) S.B.range (pa_cons (pv 1) pa_nil)) (blkOk_by (own := [("_law_k", 6)]) (N := NPl) (sc := defScope sPersonL) (by decide +kernel))
          (fun _ _ _ _ _ => pg_name (i := 6) scPersonL.nd rfl (Or.inl rfl)) (fun _ _ _ _ _ => pts_nil) (fun _ _ _ _ _ => pe_call (ok_outs FO S) hr3 rfl mO FO.kp bO .nil pass0 (pa_cons (pv 0) (pa_cons (pv 1) pa_nil)))))
      (pss_cons (ps_set (i := 4) scPersonL.nd rfl (Or.inl rfl) (pe_lst pa_nil))
      (pss_cons (ps_for PassesOwn.never rfl (pi_range1 (by rfl) S.B.range (pa_cons (pv 1) pa_nil)) (pg_name (i := 5) scPersonL.nd rfl (Or.inr rfl))
        (pss_one (ps_expr (pe_bm PySem.F.plainAttrs_list PySem.F.slot_list_append PySem.F.type_list_append mt_append (pv 4) (pa_cons
          (pe_lc (own := [("_law_out", 7)]) (g := gName 7) (tt := tTest (tOp (rIn K false) (tVar 7) (tOp (rIxL K) (tVar 3) (tOp (rIxL K) (tVar 2) (tVar 5))))) rfl scPersonL.nd (pi_range1 (by rfl) S.B.range (pa_cons (pv 1) pa_nil)) (blkOk_by (own := [("_law_out", 7)]) (N := NPl) (sc := defScope sPersonL) (by decide +kernel))
            (fun _ _ _ _ _ => pg_name (i := 7) scPersonL.nd rfl (Or.inl rfl)) (fun _ _ _ _ _ => pts_one (pt_cmpR op_in_seq (pv 7) (pe_ix ix_list (pv 3) (pe_ix ix_list (pv 2) (pv 5) (fun _ _ => rfl)) (fun _ _ => rfl)) (by rfl))) (fun _ _ _ _ _ => pv 7)) pa_nil)))))
      (pss_one (ps_ret (pe_lst (pa_cons (pv 2) (pa_cons (pv 3) (pa_cons (pv 4) pa_nil)))))))))), ?_⟩
    refine ⟨_, rfl, (n : Int), rfl, RgOk.of_le (by decide) (by omega) (by decide) (by omega), fun l0 h0 => ?_⟩
    have l0b := hb.ne h0
    rw [rg_up]
    have s0 : Same (off b H) (off b (upd H l0 (.lst (vI (up n))))) := Same.off (Same.new h0)
    have hb0 := hb.same (Same.new (o := .lst (vI (up n))) h0)
    have q0 : off b (upd H l0 (.lst (vI (up n)))) l0 = some (.lst (vI (up n))) := by rw [off_ne l0b]; exact upd_same
    generalize upd H l0 (.lst (vI (up n))) = H0 at s0 hb0 q0
    refine ⟨fun σ' H' => ∃ l1 hs, σ' = [some (.ref b), some (.int n), some (.ref l1), none, none, none, none, none] ∧ BoxAt H' b c ∧ Same (off b H) (off b H') ∧ off b H' l1 = some (.lst (vI hs)) ∧ hs.length = n ∧ hs.all (isW n) = true, ?_, ?_⟩
    · refine ⟨_, rfl, b, c, 3, rfl, hb0, by decide, by decide, fun r1 H1 hr1' hb1 s1 => ?_⟩
      refine ⟨rfl, _, rfl, ite2 (fun _ => ?_) (fun _ => ⟨l0, up n, rfl, hb1, s0.trans s1, s1 _ _ q0, up_len n, up_all n⟩)⟩
      refine ⟨_, rfl, n, rfl, by omega, by omega, fun D hD => ?_⟩
      have Db := hb1.ne hD
      have Dc := hb1.nec hD
      refine lc_range (lo := 0) (n := n) (fun i H' => BoxAt H' b c ∧ Same (off b H1) (off b H') ∧ ∃ hs, off b H' D = some (.lst (vI hs)) ∧ hs.length = i ∧ hs.all (isW n) = true) ⟨hb1.same (Same.new hD), Same.off (Same.new hD), [], by rw [off_ne Db]; exact upd_same, rfl, rfl⟩ ?_ ?_
      · rintro i H2 hi ⟨hb2, s2, hs, hd, el, ha⟩
        refine ⟨rfl, yesT (iteT ?_)⟩
        refine ⟨_, rfl, _, rfl, b, c, (n : Int), rfl, hb2, by omega, by omega, fun r H3 hr3 hb3 s3 => ?_⟩
        refine ⟨vI hs, off_le _ _ (s3 _ _ hd), ?_, hb3.upd Db Dc, ?_, hs ++ [(r : Int)], ?_, by rw [List.length_append, el]; rfl, all_add ha (by omega)⟩
        · rw [vI_len, el]
          exact Nat.lt_of_le_of_lt (by omega : i ≤ 6) (by decide)
        · rw [off_updN Db]
          exact Same.updN (s2.trans s3) (off_free hD)
        · rw [off_updN Db, upd_same, vI_add]
      · rintro H2 ⟨hb2, s2, hs, hd, el, ha⟩
        exact ⟨D, hs, rfl, hb2, (s0.trans s1).trans s2, hd, el, ha⟩
    rintro σ' H1 ⟨l1, hs, rfl, hb1, s1, q1, eh, ha⟩
    clear s0 hb0 q0
    refine ⟨_, rfl, n, rfl, by omega, by omega, fun D hD => ?_⟩
    have Db := hb1.ne hD
    have Dc := hb1.nec hD
    have D0 : off b H1 D = none := off_free hD
    refine lc_range (lo := 0) (n := n) (fun i H' => BoxAt H' b c ∧ Same (off b H1) (off b H') ∧ ∃ ks G, off b H' D = some (.lst ks) ∧ RowsN (off b H1) (off b H') ks G ∧ (∀ v ∈ ks, v ≠ .ref D) ∧ G.length = i ∧ ∀ g ∈ G, Good n g) ⟨hb1.same (Same.new hD), Same.off (Same.new hD), [], [], by rw [off_ne Db]; exact upd_same, .nil, fun _ h => (by cases h), rfl, fun _ h => (by cases h)⟩ ?_ ?_
    · rintro i H2 hi ⟨hb2, s2, ks, G, hk, hKs, nD, eG, hG⟩
      refine ⟨rfl, yesT (iteT ?_)⟩
      refine ⟨_, rfl, _, rfl, b, c, n, rfl, hb2, n1, n6, fun H3 l ws hb3 s3 lz hl g => ?_⟩
      have hk3 := s3 _ _ hk
      have lD : l ≠ D := (ne_of_none hk lz).symm
      obtain ⟨z1, z2⟩ := RowsN.snoc (o := .lst (ks ++ [.ref l])) (RowsN.same s3 hKs) nD hl (s2.free lz) lD
      refine ⟨ks, off_le _ _ hk3, ?_, hb3.upd Db Dc, ?_, ks ++ [.ref l], G ++ [ws], ?_, ?_, z2, by rw [List.length_append, eG]; rfl, ?_⟩
      · rw [Paired.length hKs, eG]
        exact Nat.lt_of_le_of_lt (by omega : i ≤ 6) (by decide)
      · rw [off_updN Db]
        exact Same.updN (s2.trans s3) D0
      · rw [off_updN Db, upd_same]
      · rw [off_updN Db]
        exact z1
      · intro g' h
        rcases List.mem_append.mp h with h | h
        · exact hG _ h
        · rw [List.mem_singleton.mp h]
          exact g
    rintro H2 ⟨hb2, s2, ks, G, hk, hKs, _, eG, hG⟩
    have q1' := s2 _ _ q1
    have s12 := s1.trans s2
    have R2 := RowsN.rows hKs
    -- the rows
    refine ⟨Nat.zero_le _, fun l3 h3 => ?_⟩
    have l3b := hb2.ne h3
    refine ⟨_, rfl, n, rfl, by omega, by omega, ?_⟩
    have eT : (pT hs (G.map fun g => asc g n)).length = n := by rw [pT_len, eh]
    refine for_range (lo := 0) (n := n) (fun i σ H' => ∃ v rs, σ = [some (.ref b), some (.int n), some (.ref l1), some (.ref D), some (.ref l3), v, none, none] ∧ Same H2 H' ∧ H' l3 = some (.lst rs) ∧ RowsL H' rs ((pT hs (G.map fun g => asc g n)).take i) ∧ ∀ v ∈ rs, v ≠ .ref l3) ⟨none, [], rfl, Same.new h3, upd_same, .nil, fun _ h => (by cases h)⟩ ?_ ?_
    · rintro i σ H3 hi ⟨v, rs, rfl, s3, hr3, hRs, n3⟩
      have e0 : (0 : Int) + (i : Int) = (i : Int) := Int.zero_add _
      rw [e0]
      obtain ⟨y, hy⟩ : ∃ y, hs[i]? = some y := ⟨_, List.getElem?_eq_getElem (by omega)⟩
      obtain ⟨j, rfl, hj⟩ := isW_at (List.all_eq_true.mp ha y (List.mem_of_getElem? hy))
      obtain ⟨u, hu, t, rfl, ht⟩ := L2.Paired.at2 R2 (at_row (by omega : j < G.length))
      refine ⟨_, rfl, .inl ⟨rfl, _, SqL.of hr3⟩, _, rfl, n, rfl, by omega, by omega, fun D2 hD2 => ?_⟩
      refine lc_range (lo := 0) (n := n) (fun g H' => Same H3 H' ∧ H' D2 = some (.lst (vI (filt g fun o => decide ((o : Int) ∈ row G j))))) ⟨Same.new hD2, upd_same⟩ ?_ ?_
      · rintro g H4 hg ⟨s4, hd4⟩
        have e1 : (0 : Int) + (g : Int) = (g : Int) := Int.zero_add _
        rw [e1]
        have s34 := s3.trans s4
        refine ⟨rfl, ?_⟩
        refine ⟨_, rfl, _, rfl, _, rfl, _, rfl, l1, _, i, _, rfl, rfl, SqL.of (s34 _ _ (off_le _ _ q1')), atI_nat (v := V.int (j : Int)) (by unfold vI; rw [List.getElem?_map, hy]; rfl), D, _, j, _, rfl, rfl, SqL.of (s34 _ _ (off_le _ _ hk)), atI_nat hu, t, _, rfl, .inl (SqL.of (s34 _ _ (off_le _ _ ht))), rfl, flat_vI _, _, rfl, ?_⟩
        show if (if false = true then !inV (.int (g : Int)) (vI (row G j)) else inV (.int (g : Int)) (vI (row G j))) = true then _ else _
        rw [if_neg Bool.false_ne_true, inV_vI]
        by_cases c1 : (g : Int) ∈ row G j
        · rw [decide_eq_true c1]
          refine iteT ⟨_, rfl, _, hd4, ?_, Same.updN s4 hD2, ?_⟩
          · rw [vI_len]
            exact Nat.lt_of_le_of_lt (Nat.le_trans (filt_len _ _) (by omega : g ≤ 6)) (by decide)
          · rw [upd_same, filt_yes (p := fun o : Nat => decide ((o : Int) ∈ row G j)) (by simp [c1]), vI_add]
        · rw [decide_eq_false c1]
          refine iteF ⟨s4, ?_⟩
          rw [filt_no (p := fun o : Nat => decide ((o : Int) ∈ row G j)) (by simp [c1])]
          exact hd4
      · rintro H4 ⟨s4, hd4⟩
        have hr4 := s4 _ _ hr3
        have D23 : D2 ≠ l3 := (ne_of_none hr3 hD2).symm
        obtain ⟨z1, z2⟩ := RowsL.snoc (o := .lst (rs ++ [.ref D2])) (RowsL.same s4 hRs) n3 hd4 D23
        refine ⟨l3, rs, _, rfl, rfl, hr4, ?_, _, rs ++ [.ref D2], rfl, Same.updN (s3.trans s4) h3, upd_same, ?_, z2⟩
        · rw [Paired.length hRs]
          exact Nat.lt_of_le_of_lt (Nat.le_trans (List.length_take_le _ _) (by omega : i ≤ 6)) (by decide)
        · rw [take_more (rowT hy (by omega))]
          exact z1
    · rintro σ H3 ⟨v, rs, rfl, s3, hr3, hRs, _⟩
      rw [show (pT hs (G.map fun g => asc g n)).take n = pT hs (G.map fun g => asc g n) from List.take_of_length_le (by omega)] at hRs
      refine ⟨_, rfl, _, rfl, _, rfl, by show 3 ≤ sizeLine; decide, fun q hq => ?_⟩
      have s4 := s3.trans (Same.new (o := .lst [.ref l1, .ref D, .ref l3]) hq)
      have hb3 := hb2.same s3
      have qb := hb3.ne hq
      have hb4 := hb2.same s4
      have so := Same.off (b := b) s4
      have R4 : RowsL (upd H3 q (.lst [.ref l1, .ref D, .ref l3])) rs _ := RowsL.same (Same.new hq) hRs
      have hr4 : upd H3 q (.lst [.ref l1, .ref D, .ref l3]) l3 = some (.lst rs) := (Same.new hq) _ _ hr3
      exact k _ q l1 D l3 hs G ks rs hb4 (s12.trans so) (by rw [off_ne qb]; exact upd_same) (so _ _ q1') (so _ _ hk) (RowsL.same so R2) (by rw [off_ne l3b]; exact hr4) (RowsL.offB R4 hb4) eh ha eG hG
end
end Toy
namespace Toy
open PySem L2
abbrev sSame : Stmt := top 42
def spSame (C : Addr) : Sp := fun vs H Q _ => ∃ (p l : Addr) (ls : List V) (R : List (List Int)), vs = [.ref p, .ref l] ∧ Tab C H p R ∧ H l = some (.lst ls) ∧ RowsL H ls R ∧ ∀ H', Same H H' → Q (.bl true) H'
section
variable {P : Program} {w : World} {K : PySem.W.Frag} {mg : Str → Option Value} {base : Heap}
structure Vt (K : PySem.W.Frag) (mg : Str → Option Value) (C : Addr) : Prop where
  G : Gs K mg C
  I : C8.InsC K C
  isInt : ∃ f fd, Fun K "_law_is_int" "_law_is_int" sIsInt f fd ∧ mg "_law_is_int" = some (.ref f) ∧ Binds K fd ["_law_value"] []
  isWords : ∃ f fd, Fun K "_law_is_words" "_law_is_words" sIsWords f fd ∧ mg "_law_is_words" = some (.ref f) ∧ Binds K fd ["_law_value"] []
  rows : ∃ f fd, Fun K "rows" "Table.rows" sRows f fd ∧ Meth K C "rows" f ∧ Binds K fd ["self"] []
theorem scSame : FnScope ["_law_table", "_law_rows", "_law_told", "_law_k"] ["_law_table", "_law_rows"] (defScope sSame) := ⟨rfl, rfl, rfl, by decide +kernel, rfl, by decide +kernel, by decide +kernel⟩
theorem ok_same {f C : Addr} {fd : FuncData} (F : Fun K "_law_same" "_law_same" sSame f fd) (S : Vt K mg C) : FnOk P w K mg base CX0 3 f fd ["_law_table", "_law_rows"] (spSame C) := by
  obtain ⟨fI, fdI, FI, mI, bI⟩ := S.isInt
  obtain ⟨fW, fdW, FW, mW, bW⟩ := S.isWords
  obtain ⟨fR, fdR, FR, mR, bR⟩ := S.rows
  have B := S.G.B
  refine F.ok scSame (fun vs H Q E h => ?_) (fun cdv A outer s H vs Q E hr h => ?_)
  · obtain ⟨p, l, ls, R, rfl, _⟩ := h
    rfl
  · obtain ⟨p, l, ls, R, rfl, hT, hl, hR, k⟩ := h
    obtain ⟨dx, tr, tp, ts, qs, h1, h2, h3, h4, h5, h6, h7, h8, h9⟩ := id hT
    have hr1 : Room 1 _ := hr.mono (by decide)
    refine ⟨_, pss_cons (ps_if (PW.pt (pw_or (pt_not (pt_val (pe_callB (C8.call_isC S.I) (by rfl) B.isinstance (by decide +kernel) (pa_cons (pv 0) (pa_cons (pe_glob rfl S.G.T.mgC (v := .ref C) rfl) pa_nil)))))
        (pw_or (pt_not (pt_val (pe_call (ok_isInt FI B) hr1 rfl mI FI.kp bI .nil pass0 (pa_cons (pe_fld (pv 0) rfl) pa_nil))))
          (pw_or1 (pt_cmpR op_ne (pe_fld (pv 0) rfl) (pe_callB call_len_seq (by rfl) B.len PySem.boot_len (pa_cons (pv 1) pa_nil)) (nomark _)))))) (pss_one ps_never) pss_nil)
      (pss_cons (ps_set (i := 2) scSame.nd rfl (Or.inl rfl) (pe_meth0 (pv 0) S.G.T.cl mR (ok_rows FR S.G) hr1 bR .nil pass0))
      (pss_cons (ps_if (PW.pt (pw_or (pt_not (pt_val (pe_callB call_isi (by rfl) B.isinstance (by decide +kernel) (pa_cons (pv 2) (pa_cons (pe_bltn (v := .ty "list") (u := .type "list") (by rfl) B.list (by decide +kernel) rfl) pa_nil)))))
          (pw_or1 (pt_cmpR op_ne (pe_callB call_len_seq (by rfl) B.len PySem.boot_len (pa_cons (pv 2) pa_nil)) (pe_callB call_len_seq (by rfl) B.len PySem.boot_len (pa_cons (pv 1) pa_nil)) (nomark _))))) (pss_one ps_never) pss_nil)
      (pss_cons (ps_for PassesOwn.never rfl (pi_range1 (by rfl) B.range (pa_cons (pe_callB call_len_seq (by rfl) B.len PySem.boot_len (pa_cons (pv 1) pa_nil)) pa_nil)) (pg_name (i := 3) scSame.nd rfl (Or.inl rfl))
        (pss_one (ps_if (PW.pt (pw_or (pt_not (pt_val (pe_call (ok_isWords FW B FI mI bI) hr rfl mW FW.kp bW .nil pass0 (pa_cons (pe_ix ix_list (pv 2) (pv 3) (fun _ _ => rfl)) pa_nil))))
          (pw_or1 (pt_cmpR (op_neD hr.units) (pe_ix ix_list (pv 2) (pv 3) (fun _ _ => rfl)) (pe_ix ix_list (pv 1) (pv 3) (fun _ _ => rfl)) (nomark _))))) (pss_one ps_never) pss_nil)))
      (pss_one (ps_ret pe_bl))))), ?_⟩
    have eL : ls.length = R.length := Paired.length hR
    refine ⟨_, rfl, p, dx, _, rfl, h1, _, rfl, iteF ?_⟩
    refine ⟨_, rfl, p, C, dx, _, _, rfl, h1, S.G.T.cl, S.G.T.nS, tf_size _ _ _, _, rfl, _, rfl, iteF ?_⟩
    refine ⟨_, rfl, p, C, dx, _, _, rfl, h1, S.G.T.cl, S.G.T.nS, tf_size _ _ _, _, rfl, l, _, rfl, .inl (SqL.of hl), rfl, _, rfl, iteNS (by rw [eL]) ?_⟩
    refine ⟨_, rfl, p, dx, _, rfl, h1, tf_rows' _ _ _, p, R, rfl, hT, fun H1 l2 ls2 s1 l20 hl2 hR2 => ?_⟩
    have hl1 := s1 _ _ hl
    have eL2 : ls2.length = R.length := Paired.length hR2
    refine ⟨_, rfl, _, _, .type "list", _, true, rfl, .ty "list", .base (.lst hl2), kit_ty (by decide +kernel), _, rfl, iteF ?_⟩
    refine ⟨_, rfl, l2, _, rfl, .inl (SqL.of hl2), _, rfl, l, _, rfl, .inl (SqL.of hl1), rfl, _, rfl, iteNS (by rw [eL, eL2]) ?_⟩
    refine ⟨_, rfl, l, _, rfl, .inl (SqL.of hl1), (ls.length : Int), rfl, by omega, by omega, ?_⟩
    refine for_range (lo := 0) (n := ls.length) (fun i σ H' => H' = H1 ∧ ∃ v, σ = [some (.ref p), some (.ref l), some (.ref l2), v]) ⟨rfl, none, rfl⟩ ?_ ?_
    · rintro i σ H' hi ⟨rfl, v, rfl⟩
      obtain ⟨r, hr0⟩ : ∃ r, R[i]? = some r := ⟨_, List.getElem?_eq_getElem (by omega)⟩
      obtain ⟨u1, g1, t1, rfl, q1, _⟩ := L2.Paired.at2 hR2 hr0
      obtain ⟨u2, g2, t2, rfl, q2⟩ := L2.Paired.at2 (RowsL.same s1 hR) hr0
      refine ⟨_, rfl, _, rfl, l2, _, _, _, rfl, rfl, SqL.of hl2, at_of (j := i) (by omega) g1, t1, r, rfl, q1, _, rfl, iteF ?_⟩
      refine ⟨_, rfl, _, rfl, l2, _, _, _, rfl, rfl, SqL.of hl2, at_of (j := i) (by omega) g1, _, rfl, _, rfl, l, _, _, _, rfl, rfl, SqL.of hl1, at_of (j := i) (by omega) g2, _, _, dpI (SqL.of q1), dpI (SqL.of q2), shI r, shI r, _, rfl, ?_⟩
      rw [eqI, decide_eq_true rfl]
      exact iteF ⟨rfl, _, rfl⟩
    · rintro σ H' ⟨rfl, v, rfl⟩
      exact k _ s1
end
end Toy
namespace Toy
open PySem PySem.Spec PyProof.Rows L2
abbrev sFar : Stmt := top 43
/-- an integer that is no word -/
def spFar : Sp := fun vs H Q _ => ∃ (b c : Addr) (n : Nat), vs = [.ref b, .int n] ∧ BoxAt H b c ∧ 1 ≤ n ∧ n ≤ 6 ∧ ∀ (x : Int) H', isW n x = false → x.natAbs ≤ 1000010 → BoxAt H' b c → Same (off b H) (off b H') → Q (.int x) H'
section
variable {P : Program} {w : World} {K : PySem.W.Frag} {mg : Str → Option Value} {base : Heap}
theorem scFar : FnScope ["_law_box_here", "_law_n"] ["_law_box_here", "_law_n"] (defScope sFar) := ⟨rfl, rfl, rfl, by decide +kernel, rfl, by decide +kernel, by decide +kernel⟩
theorem ok_far {f : Addr} {fd : FuncData} (F : Fun K "_law_far" "_law_far" sFar f fd) (S : Lt K mg) : FnOk P w K mg base CX0 2 f fd ["_law_box_here", "_law_n"] spFar := by
  obtain ⟨fT, fdT, FT, mT, bT⟩ := S.take
  refine F.ok scFar (fun vs H Q E h => ?_) (fun cdv A outer s H vs Q E hr h => ?_)
  · obtain ⟨b, c, n, rfl, _⟩ := h
    rfl
  · obtain ⟨b, c, n, rfl, hb, n1, n6, k⟩ := h
    refine ⟨_, pss_cons (ps_if (pt_cmpR op_eq (pe_call (ok_take FT S.B) hr rfl mT FT.kp bT .nil pass0 (pa_cons (pv 0) (pa_cons pe_int pa_nil))) pe_int (nomark _))
        (pss_one (ps_ret (pe_op op_sub (pe_un un_neg pe_int) (pe_call (ok_take FT S.B) hr rfl mT FT.kp bT .nil pass0 (pa_cons (pv 0) (pa_cons (pe_op op_pow pe_int pe_int) pa_nil)))))) pss_nil)
      (pss_one (ps_ret (pe_op op_add (pv 1) (pe_call (ok_take FT S.B) hr rfl mT FT.kp bT .nil pass0 (pa_cons (pv 0) (pa_cons (pe_op op_pow pe_int pe_int) pa_nil)))))), ?_⟩
    have far : ∀ {x : Int}, (x < 0 ∨ (n : Int) ≤ x) → isW n x = false := fun {x} h => by
      unfold isW
      rcases h with h | h
      · rw [decide_eq_false (by omega : ¬ (0 : Int) ≤ x)]; rfl
      · rw [decide_eq_false (by omega : ¬ x < (n : Int)), Bool.and_false]
    refine ⟨_, rfl, b, c, 2, rfl, hb, by decide, by decide, fun r H1 hr1 hb1 s1 => ?_⟩
    refine ⟨rfl, _, rfl, ite2 (fun _ => ?_) (fun _ => ?_)⟩
    · refine ⟨_, rfl, _, rfl, _, _, rfl, rfl, ⟨by decide, by decide, by decide⟩, b, c, _, rfl, hb1, by decide, by decide, fun r2 H2 hr2 hb2 s2 => ?_⟩
      have hr2' : (r2 : Int) < 1000000 := hr2
      exact ⟨_, _, rfl, rfl, k _ H2 (far (by omega)) (by omega) hb2 (s1.trans s2)⟩
    · refine ⟨_, rfl, _, rfl, _, _, rfl, rfl, ⟨by decide, by decide, by decide⟩, b, c, _, rfl, hb1, by decide, by decide, fun r2 H2 hr2 hb2 s2 => ?_⟩
      have hr2' : (r2 : Int) < 1000000 := hr2
      exact ⟨_, _, rfl, rfl, k _ H2 (far (by omega)) (by omega) hb2 (s1.trans s2)⟩
end
end Toy
namespace Toy
open PySem PySem.Spec PyProof.Rows L2
/-- what has come since F -/
def since (F H : Hp) : Hp := fun a => match F a with
  | none => H a
  | some _ => none
theorem since_new {F H : Hp} {a : Addr} (h : F a = none) : since F H a = H a := by unfold since; rw [h]
theorem since_old {F H : Hp} {a : Addr} {o : HO} (h : F a = some o) : since F H a = none := by unfold since; rw [h]
theorem since_le {F H : Hp} : Same (since F H) H := fun a o h => by
  cases e : F a with
  | none => rw [since_new e] at h; exact h
  | some x => rw [since_old e] at h; cases h
theorem since_same {F H H' : Hp} (s : Same H H') : Same (since F H) (since F H') := fun a o h => by
  cases e : F a with
  | none => rw [since_new e] at h ⊢; exact s _ _ h
  | some x => rw [since_old e] at h; cases h
theorem since_upd {F H : Hp} {a : Addr} {o o' : HO} (h : F a = some o) : since F (upd H a o') = since F H := by
  funext b
  cases e : F b with
  | none =>
    rw [since_new e, since_new e, upd_ne]
    intro z
    rw [z, h] at e
    cases e
  | some x => rw [since_old e, since_old e]
theorem since_off {F H H' : Hp} {b c : Addr} (hF : BoxAt F b c) (s : Same (off b H) (off b H')) : Same (since F H) (since F H') := fun a o h => by
  cases e : F a with
  | none =>
    rw [since_new e] at h ⊢
    have n : a ≠ b := by
      intro z
      obtain ⟨cs, i, pd, st, eb, _⟩ := hF
      rw [z, eb] at e
      cases e
    have := s a o (by rw [off_ne n]; exact h)
    rw [off_ne n] at this
    exact this
  | some x => rw [since_old e] at h; cases h
theorem ixN_at {n j : Nat} (h : j < n) : ixN n (j : Int) = some j := by
  unfold ixN
  rw [if_pos (by omega), if_pos (by omega), Int.toNat_natCast]
abbrev sLaw : Stmt := top 46
section
variable {P : Program} {w : World} {K : PySem.W.Frag} {mg : Str → Option Value} {base : Heap}
structure Al (P : Program) (K : PySem.W.Frag) (mg : Str → Option Value) (r : Errs) (Ct C : Addr) : Prop where
  L : Lt K mg
  V : Vt K mg Ct
  PT : PT K mg C
  mgP : mg "Person" = some (.ref C)
  init : ∃ f fd, Fun K "__init__" "Table.__init__" sInit f fd ∧ Mk K Ct f ∧ Binds K fd ["self", "rows"] []
  pinit : ∃ f fd, Fun K "__init__" "Person.__init__" sPInit f fd ∧ Mk K C f ∧ Binds K fd ["self", "hears", "says"] []
  heard : ∃ f fd, Fun K "heard" "Person.heard" sHeard f fd ∧ Meth K C "heard" f ∧ Binds K fd ["self", "word"] []
  said : ∃ f fd, Fun K "said" "Person.said" sSaid f fd ∧ Meth K C "said" f ∧ Binds K fd ["self", "word"] []
  tabP : ∃ f fd p, Fun K "table" "Person.table" sTabP f fd ∧ PropOf K C "table" p f ∧ Binds K fd ["self"] []
  box : ∃ f fd, Fun K "_law_box" "_law_box" sBox f fd ∧ mg "_law_box" = some (.ref f) ∧ Binds K fd ["_law_script"] []
  outs : ∃ f fd, Fun K "_law_outs" "_law_outs" sOuts f fd ∧ mg "_law_outs" = some (.ref f) ∧ Binds K fd ["_law_box_here", "_law_n"] []
  person : ∃ f fd, Fun K "_law_person" "_law_person" sPersonL f fd ∧ mg "_law_person" = some (.ref f) ∧ Binds K fd ["_law_box_here", "_law_n"] []
  far : ∃ f fd, Fun K "_law_far" "_law_far" sFar f fd ∧ mg "_law_far" = some (.ref f) ∧ Binds K fd ["_law_box_here", "_law_n"] []
  same : ∃ f fd, Fun K "_law_same" "_law_same" sSame f fd ∧ mg "_law_same" = some (.ref f) ∧ Binds K fd ["_law_table", "_law_rows"] []
  wE : ∃ f fd, Fun K "_law_word_error" "_law_word_error" sWErr f fd ∧ mg "_law_word_error" = some (.ref f) ∧ Binds K fd ["_law_which", "_law_person_here", "_law_word"] []
  H : Hk P K mg r
  RU : ErX P K mg r "UnknownWord" ["word"] r.c2
  x22 : PySem.W.exmOne K (.ref r.c2) (.ref r.c2) = some true
abbrev NL : List Str := ["_law_script", "_law_box_here", "_law_n", "_law_one", "_law_hears", "_law_says", "_law_person_here", "_law_k", "_law_row", "_law_turn", "_law_word", "_law_told", "_law_bad", "_law_which"]
theorem scLaw : FnScope NL ["_law_script"] (defScope sLaw) := ⟨rfl, rfl, rfl, by decide +kernel, rfl, by decide +kernel, by decide +kernel⟩
theorem ok_law {f C Ct : Addr} {fd : FuncData} {r : Errs} (F : Fun K "law" "law" sLaw f fd) (S : Al P K mg r Ct C) : FnOk P w K mg base CX0 7 f fd ["_law_script"] (spLaw K) := by
  obtain ⟨fT, fdT, FT, mT, bT⟩ := S.L.take
  obtain ⟨fI, fdI, FI, mI, bI⟩ := S.V.isInt
  obtain ⟨fW, fdW, FW, mW, bW⟩ := S.V.isWords
  obtain ⟨fN, fdN, FN, MN, bN⟩ := S.init
  obtain ⟨fPI, fdPI, FPI, MPI, bPI⟩ := S.pinit
  obtain ⟨fHe, fdHe, FHe, mHe, bHe⟩ := S.heard
  obtain ⟨fSa, fdSa, FSa, mSa, bSa⟩ := S.said
  obtain ⟨fTa, fdTa, pTa, FTa, mTa, bTa⟩ := S.tabP
  obtain ⟨fB, fdB, FB, mB, bB⟩ := S.box
  obtain ⟨fO, fdO, FO, mO, bO⟩ := S.outs
  obtain ⟨fP, fdP, FP, mP, bP⟩ := S.person
  obtain ⟨fF, fdF, FF, mF, bF⟩ := S.far
  obtain ⟨fS, fdS, FS, mS, bS⟩ := S.same
  obtain ⟨fE, fdE, FE, mE, bE⟩ := S.wE
  have B := S.L.B
  have Gs := S.V.G
  have T := S.PT
  refine F.ok scLaw (fun vs H Q E h => ?_) (fun cdv A outer s H vs Q E hr h => ?_)
  · obtain ⟨a, ns, rfl, _⟩ := h
    rfl
  · obtain ⟨a, ns, rfl, hS, hlen, k⟩ := h
    have hr1 : Room 1 _ := hr.mono (by decide)
    have hr2 : Room 2 _ := hr.mono (by decide)
    have hr3 : Room 3 _ := hr.mono (by decide)
    have hr4 : Room 4 _ := hr.mono (by decide)
    refine ⟨_, pss_cons (ps_set (i := 1) scLaw.nd rfl (Or.inl rfl) (pe_call (ok_box FB B) hr1 rfl mB FB.kp bB .nil pass0 (pa_cons (pv 0) pa_nil)))
      (pss_cons (ps_set (i := 2) scLaw.nd rfl (Or.inl rfl) (pe_op op_add pe_int (pe_call (ok_take FT B) hr1 rfl mT FT.kp bT .nil pass0 (pa_cons (pv 1) (pa_cons pe_int pa_nil)))))
      (pss_cons (ps_set (i := 3) scLaw.nd rfl (Or.inl rfl) (pe_call (ok_personL FP S.L FO mO bO) hr4 rfl mP FP.kp bP .nil pass0 (pa_cons (pv 1) (pa_cons (pv 2) pa_nil))))
      (pss_cons (ps_set (i := 4) scLaw.nd rfl (Or.inl rfl) (pe_callTy call_list_of (by rfl) B.list (by decide +kernel) (pa_cons (pe_ix ix_list (pv 3) pe_int (fun _ _ => rfl)) pa_nil)))
      (pss_cons (ps_setLc (i := 5) (own := [("_law_row", 8)]) (g := gName 8) (tt := tYes) rfl scLaw.nd rfl rfl (sw_true rfl rfl rfl (by decide +kernel)) (pi_list (pe_ix ix_list (pv 3) pe_int (fun _ _ => rfl))) (blkOk_by (own := [("_law_row", 8)]) (N := NL) (sc := defScope sLaw) (by decide +kernel))
          (fun _ _ _ _ _ => pg_name (i := 8) scLaw.nd rfl (Or.inl rfl)) (fun _ _ _ _ _ => pts_nil)
          (te := tCB (fun xs H Q => ∃ p ys, xs = [.ref p] ∧ (SqL K H p ys ∨ SqT K H p ys) ∧ ∀ l, H l = none → Q (.ref l) (upd H l (.lst ys))) (tCons (tVar 8) tNil))
          (fun _ _ _ _ _ => pe_callTy call_list_of (by rfl) B.list (by decide +kernel) (pa_cons (pv 8) pa_nil)))
      (pss_cons (ps_set (i := 6) scLaw.nd rfl (Or.inl rfl) (pe_make MPI (ok_pInit FPI Gs T) hr4 rfl S.mgP bPI .nil pass0 (pa_cons (pv 4) (pa_cons (pv 5) pa_nil))))
      (pss_cons (ps_if (PW.pt (pw_or (pt_cmpR (op_neD hr.units) (pv 4) (pe_ix ix_list (pv 3) pe_int (fun _ _ => rfl)) (nomark _)) (pw_or1 (pt_cmpR (op_neD hr.units) (pv 5) (pe_ix ix_list (pv 3) pe_int (fun _ _ => rfl)) (nomark _))))) (pss_one ps_never) pss_nil)
      (pss_cons (ps_for PassesOwn.never rfl (pi_range1 (by rfl) B.range (pa_cons (pv 2) pa_nil)) (pg_name (i := 7) scLaw.nd rfl (Or.inl rfl))
        (pss_cons (ps_asg pe_int (pg_sub (pv 4) (pv 7) set_list))
        (pss_cons (ps_set (i := 8) scLaw.nd rfl (Or.inl rfl) (pe_ix ix_list (pv 5) (pv 7) (fun _ _ => rfl)))
        (pss_one (ps_expr (pe_bm PySem.F.plainAttrs_list PySem.F.slot_list_append PySem.F.type_list_append mt_append (pv 8) (pa_cons (pe_call (ok_take FT B) hr1 rfl mT FT.kp bT .nil pass0 (pa_cons (pv 1) (pa_cons (pv 2) pa_nil))) pa_nil)))))))
      (pss_cons (ps_for PassesOwn.never rfl (pi_range1 (by rfl) B.range (pa_cons pe_int pa_nil)) (pg_name (i := 9) scLaw.nd rfl (Or.inl rfl))
        (pss_cons (ps_if (PW.pt (pw_or (pt_cmpR op_ne (pe_fld (pv 6) rfl) (pv 2) (nomark _)) (pw_or1 (pt_not (pt_val (pe_call (ok_same FS S.V) hr3 rfl mS FS.kp bS .nil pass0 (pa_cons (pe_prop (pv 6) T.cl mTa (ok_tabP FTa Gs T FHe mHe bHe FSa mSa bSa FN MN bN) (hr.mono (by decide)) bTa .nil pass0 rfl) (pa_cons (pe_ix ix_list (pv 3) pe_int (fun _ _ => rfl)) pa_nil)))))))) (pss_one ps_never) pss_nil)
        (pss_one (ps_for PassesOwn.never rfl (pi_range1 (by rfl) B.range (pa_cons (pv 2) pa_nil)) (pg_name (i := 10) scLaw.nd rfl (Or.inl rfl))
          (pss_cons (ps_set (i := 11) scLaw.nd rfl (Or.inl rfl) (pe_meth (pv 6) T.cl mSa (ok_said FSa Gs T FHe mHe bHe) hr4 bSa .nil pass0 (pa_cons (pv 10) pa_nil)))
          (pss_cons (ps_if (PW.pt (pw_or (pt_not (pt_val (pe_call (ok_isWords FW B FI mI bI) hr2 rfl mW FW.kp bW .nil pass0 (pa_cons (pv 11) pa_nil))))
            (pw_or (pt_cmpR (op_neD hr.units) (pv 11) (pe_ix ix_list (pe_ix ix_list (pv 3) pe_int (fun _ _ => rfl)) (pv 10) (fun _ _ => rfl)) (nomark _))
            (pw_or1 (pt_cmpR op_ne (pe_meth (pv 6) T.cl mHe (ok_heard FHe Gs T) hr3 bHe .nil pass0 (pa_cons (pv 10) pa_nil)) (pe_ix ix_list (pe_ix ix_list (pv 3) pe_int (fun _ _ => rfl)) (pv 10) (fun _ _ => rfl)) (nomark _)))))) (pss_one ps_never) pss_nil)
          (pss_one (ps_expr (pe_bm PySem.F.plainAttrs_list PySem.F.slot_list_append PySem.F.type_list_append mt_append (pv 11) (pa_cons pe_int pa_nil))))))))))
      (pss_cons (ps_set (i := 12) scLaw.nd rfl (Or.inl rfl) (pe_call (ok_far FF S.L) hr2 rfl mF FF.kp bF .nil pass0 (pa_cons (pv 1) (pa_cons (pv 2) pa_nil))))
      (pss_cons (ps_for PassesOwn.never rfl (pi_range1 (by rfl) B.range (pa_cons pe_int pa_nil)) (pg_name (i := 13) scLaw.nd rfl (Or.inl rfl))
        (pss_one (ps_if (PW.pt (pw_or (pt_cmpR (op_neD hr.units) (pe_call (ok_wErr FE Gs T FHe mHe bHe FSa mSa bSa S.H S.RU S.x22) hr rfl mE FE.kp bE .nil pass0 (pa_cons (pv 13) (pa_cons (pv 6) (pa_cons (pv 12) pa_nil)))) (pe_lst (pa_cons (pv 12) (pa_cons pe_bl pa_nil))) (nomark _))
          (pw_or1 (pt_cmpR (op_neD hr.units) (pe_call (ok_wErr FE Gs T FHe mHe bHe FSa mSa bSa S.H S.RU S.x22) hr rfl mE FE.kp bE .nil pass0 (pa_cons (pv 13) (pa_cons (pv 6) (pa_cons (pe_op op_sub (pv 2) pe_int) pa_nil)))) (pe_lst pa_nil) (nomark _))))) (pss_one ps_never) pss_nil)))
      (pss_one (ps_ret pe_bl)))))))))))), ?_⟩
    refine ⟨_, rfl, a, ns, rfl, hS, hlen, fun H1 b c s1 hb0 hb1 => ?_⟩
    refine ⟨_, rfl, b, c, 6, rfl, hb1, by decide, by decide, fun r0 H2 hr2' hb2 s2 => ?_⟩
    refine ⟨_, _, rfl, rfl, ?_⟩
    have en : (1 : Int) + (r0 : Int) = ((r0 + 1 : Nat) : Int) := by omega
    have eV : (fun (i j : Int) => V.int (i + j)) 1 (r0 : Int) = V.int ((r0 + 1 : Nat) : Int) := congrArg V.int en
    rw [eV]
    have n1 : 1 ≤ r0 + 1 := by omega
    have n6 : r0 + 1 ≤ 6 := by omega
    generalize r0 + 1 = n at n1 n6
    refine ⟨_, rfl, _, rfl, b, c, n, rfl, hb2, n1, n6, fun H3 q l1 l2 l3 hs G ls rs hb3 s3 hq h1 h2 hG h3 hT eh ha eG gG => ?_⟩
    subst eh
    clear en eV
    generalize hG1 : off b H3 = G1 at hq h1 h2 hG h3 hT
    have G1H3 : Same G1 H3 := by rw [← hG1]; exact off_le
    have el : ls.length = hs.length := (Paired.length hG).trans eG
    have lr : rs.length = hs.length := (Paired.length hT).trans pT_len
    have gCan : ∀ r ∈ (G.map fun g => Toy.asc g hs.length), Can hs.length r := fun r hr => by
      obtain ⟨g, hg, rfl⟩ := List.mem_map.mp hr
      exact asc_can g
    -- what it hears
    refine ⟨_, rfl, q, _, _, _, rfl, rfl, SqL.of (G1H3 _ _ hq), at_of (j := 0) rfl rfl, l1, _, rfl, .inl (SqL.of (G1H3 _ _ h1)), fun D1 hD1 => ?_⟩
    have D1b := hb3.ne hD1
    have D1c := hb3.nec hD1
    have D10 : G1 D1 = none := G1H3.free hD1
    have sa : Same (off b H3) (off b (upd H3 D1 (.lst (vI hs)))) := Same.off (Same.new hD1)
    have hb4 := hb3.same (Same.new (o := .lst (vI hs)) hD1)
    have q4 : upd H3 D1 (.lst (vI hs)) D1 = some (.lst (vI hs)) := upd_same
    rw [hG1] at sa
    generalize upd H3 D1 (.lst (vI hs)) = H4 at sa hb4 q4
    have g4 : Same G1 H4 := sa.trans off_le
    -- what it says
    refine ⟨_, rfl, q, _, _, _, rfl, rfl, SqL.of (g4 _ _ hq), at_of (j := 1) rfl rfl, l2, rfl, ⟨_, SqL.of (g4 _ _ h2)⟩, fun D2 hD2 => ?_⟩
    refine lc_list (K := K) (a := l2) (xs := ls) (fun i H' => Same H4 H' ∧ ∃ ks, H' D2 = some (.lst ks) ∧ RowsN H4 H' ks (G.take i) ∧ ∀ v ∈ ks, v ≠ .ref D2) ⟨Same.new hD2, [], upd_same, .nil, fun _ h => by cases h⟩ (fun i H' _ ⟨s, _⟩ => SqL.of (s _ _ (g4 _ _ h2))) ?_ ?_
    · rintro i y H5 hi ⟨s5, ks, hk, hKs, nD⟩
      obtain ⟨g, hg, t, rfl, ht⟩ := L2.Paired.at (RowsL.same (g4.trans s5) hG) hi
      refine ⟨rfl, yesT (iteT ?_)⟩
      refine ⟨_, rfl, t, _, rfl, .inl (SqL.of ht), fun u hu => ?_⟩
      have nu : u ≠ D2 := (ne_of_none hk hu).symm
      have s6 := Same.new (H := H5) (o := .lst (vI g)) hu
      obtain ⟨z1, z2⟩ := RowsN.snoc (G0 := H4) (o := .lst (ks ++ [.ref u])) (RowsN.same s6 hKs) nD upd_same (s5.free hu) nu
      refine ⟨ks, s6 _ _ hk, ?_, Same.updN (s5.trans s6) hD2, ks ++ [.ref u], upd_same, ?_, z2⟩
      · rw [Paired.length hKs]
        exact Nat.lt_of_le_of_lt (Nat.le_trans (List.length_take_le' _ _) (by omega : _ ≤ 6)) (by decide)
      · rw [take_more hg]
        exact z1
    rintro H5 ⟨s5, ks, hk, hKs, nD⟩
    rw [el, ← eG, List.take_length] at hKs
    have lk : ks.length = hs.length := (Paired.length hKs).trans eG
    have D15 := s5 _ _ q4
    have hb5 := hb4.same s5
    -- Person(hears, says)
    refine ⟨_, rfl, _, rfl, fun x dx hx hdx ndx => ?_⟩
    have s6 : Same H5 (upd (upd H5 dx (.own x)) x (.ins C dx [])) := Same.upd (Same.new hdx) (by rw [upd_ne ndx.symm]; exact hx)
    have dxo : upd (upd H5 dx (.own x)) x (.ins C dx []) dx = some (.own x) := by rw [upd_ne ndx]; exact upd_same
    refine ⟨x, dx, D1, D2, hs, ks, G, rfl, upd_same, dxo, s6 _ _ D15, s6 _ _ hk, RowsL.same s6 (RowsN.rows hKs), n1, n6, eG, ha, fun g hg => let ⟨a1, a2, a3⟩ := gG g hg; ⟨a1, Nat.lt_of_le_of_lt a2 (by decide), a3⟩, fun H6 lh lk' kk k6 hx6 lh0 hlh lk0 hlk hKK => ⟨rfl, ?_⟩⟩
    have s56 : Same H5 H6 := fun q o e => k6 q o (ne_of_none e hx) (s6 _ _ e)
    have hP6 : Per C (since H5 H6) x hs (G.map fun g => Toy.asc g hs.length) :=
      ⟨dx, lh, lk', kk, by rw [since_new hx]; exact hx6, by rw [since_new hdx]; exact k6 _ _ ndx dxo, by rw [since_new (s6.free lh0)]; exact hlh, by rw [since_new (s6.free lk0)]; exact hlk,
        L2.Paired.mapP hKK fun _ _ ⟨t, e, q1, q2⟩ => ⟨t, e, by rw [since_new (s6.free q2)]; exact q1⟩, by rw [List.length_map, eG], n1, n6, fun y hy => List.all_eq_true.mp ha y hy, gCan⟩
    have lL : (G.map fun g => Toy.asc g hs.length).length = hs.length := by rw [List.length_map, eG]
    generalize (G.map fun g => Toy.asc g hs.length) = L at hP6 gCan hT lL
    have hb6 := hb5.same s56
    have so6 : Same G1 (off b H6) := sa.trans (Same.off (s5.trans s56))
    have g6 : Same G1 H6 := so6.trans off_le
    refine ⟨_, rfl, _, rfl, q, _, _, _, rfl, rfl, SqL.of (g6 _ _ hq), at_of (j := 0) rfl rfl, _, _, dpI (SqL.of (s56 _ _ D15)), dpI (SqL.of (g6 _ _ h1)), shI hs, shI hs, _, rfl, ?_⟩
    rw [eqI, decide_eq_true rfl]
    refine iteF ?_
    refine ⟨_, rfl, _, rfl, q, _, _, _, rfl, rfl, SqL.of (g6 _ _ hq), at_of (j := 1) rfl rfl, _, _, dpR (SqL.of (s56 _ _ hk)) (RowsL.same s56 (RowsN.rows hKs)), dpR (SqL.of (g6 _ _ h2)) (RowsL.same g6 hG), shR G, shR G, _, rfl, ?_⟩
    rw [eqR, decide_eq_true rfl]
    refine iteF ?_
    -- both lists are changed
    refine ⟨_, rfl, hs.length, rfl, by omega, by omega, ?_⟩
    refine for_range (lo := 0) (n := hs.length) (fun i σ H' => (∃ v7 v8, σ = [some (.ref a), some (.ref b), some (.int hs.length), some (.ref q), some (.ref D1), some (.ref D2), some (.ref x), v7, v8, none, none, none, none, none]) ∧ BoxAt H' b c ∧ Same G1 (off b H') ∧ Same (since H5 H6) (since H5 H') ∧
        (∃ ws, H' D1 = some (.lst (vI ws)) ∧ ws.length = hs.length) ∧ H' D2 = some (.lst ks) ∧
        ∀ v ∈ ks, ∃ t ws o, v = V.ref t ∧ t ≠ D1 ∧ t ≠ D2 ∧ t ≠ b ∧ t ≠ c ∧ G1 t = none ∧ H5 t = some o ∧ H' t = some (.lst (vI ws)) ∧ ws.length ≤ 7 + i)
      ⟨⟨none, none, rfl⟩, hb6, so6, fun _ _ z => z, ⟨hs, s56 _ _ D15, rfl⟩, s56 _ _ hk, fun v hv => ?_⟩ ?_ ?_
    · obtain ⟨g, hg, t, e, qt, qn⟩ := Paired.mem hKs hv
      exact ⟨t, g, _, e, (ne_of_none q4 qn).symm, fun z => nD v hv (by rw [e, z]), hb4.ne qn, hb4.nec qn, g4.free qn, qt, s56 _ _ qt, (gG g hg).2.1⟩
    · rintro i σ H7 hi ⟨⟨v7, v8, rfl⟩, hb7, so7, sn7, ⟨ws1, d1, lw1⟩, d2, ok7⟩
      have e0 : (0 : Int) + (i : Int) = (i : Int) := Int.zero_add _
      rw [e0]
      obtain ⟨y, hy⟩ : ∃ y, ks[i]? = some y := ⟨_, List.getElem?_eq_getElem (by omega)⟩
      obtain ⟨t, ws, o, rfl, t1, t2, tb, tc, tG, tO, ht, lw⟩ := ok7 y (List.mem_of_getElem? hy)
      refine ⟨_, rfl, _, rfl, D1, _, _, i, rfl, rfl, d1, ixN_at (by rw [vI_len]; omega), ?_⟩
      rw [show (vI ws1).set i (V.int 0) = vI (ws1.set i 0) by unfold vI; rw [List.map_set]]
      have hb8 := hb7.upd (o := .lst (vI (ws1.set i 0))) D1b D1c
      have so8 : Same G1 (off b (upd H7 D1 (.lst (vI (ws1.set i 0))))) := by rw [off_updN D1b]; exact Same.updN so7 D10
      have sn8 : Same (since H5 H6) (since H5 (upd H7 D1 (.lst (vI (ws1.set i 0))))) := by rw [since_upd D15]; exact sn7
      have d18 : upd H7 D1 (.lst (vI (ws1.set i 0))) D1 = some (.lst (vI (ws1.set i 0))) := upd_same
      have n21 : D2 ≠ D1 := (ne_of_none q4 hD2).symm
      have d28 : upd H7 D1 (.lst (vI (ws1.set i 0))) D2 = some (.lst ks) := by rw [upd_ne n21]; exact d2
      have ok8 : ∀ v ∈ ks, ∃ t ws o, v = V.ref t ∧ t ≠ D1 ∧ t ≠ D2 ∧ t ≠ b ∧ t ≠ c ∧ G1 t = none ∧ H5 t = some o ∧ upd H7 D1 (.lst (vI (ws1.set i 0))) t = some (.lst (vI ws)) ∧ ws.length ≤ 7 + i := fun v hv =>
        let ⟨t', ws', o', e, a1, a2, a3, a4, a5, a6, a7, a8⟩ := ok7 v hv
        ⟨t', ws', o', e, a1, a2, a3, a4, a5, a6, by rw [upd_ne a1]; exact a7, a8⟩
      have ht8 : upd H7 D1 (.lst (vI (ws1.set i 0))) t = some (.lst (vI ws)) := by rw [upd_ne t1]; exact ht
      have lw8 : (ws1.set i 0).length = hs.length := by rw [List.length_set]; exact lw1
      generalize ws1.set i 0 = ws2 at *
      generalize upd H7 D1 (.lst (vI ws2)) = H8 at *
      refine ⟨_, rfl, _, rfl, D2, _, _, _, rfl, rfl, SqL.of d28, at_of (j := i) rfl hy, ?_⟩
      refine ⟨_, rfl, .inl ⟨rfl, _, SqL.of ht8⟩, _, rfl, _, rfl, b, c, (hs.length : Int), rfl, hb8, by omega, by omega, fun r H9 hr9 hb9 s9 => ?_⟩
      have of9 : ∀ {z : Addr} {o : HO}, z ≠ b → H8 z = some o → H9 z = some o := fun {z o} n e => by
        have := s9 z o (by rw [off_ne n]; exact e)
        rwa [off_ne n] at this
      have D2b : D2 ≠ b := hb4.ne hD2
      refine ⟨t, vI ws, _, rfl, rfl, of9 tb ht8, ?_, ⟨_, _, rfl⟩, hb9.upd tb tc, ?_, ?_, ⟨ws2, ?_, lw8⟩, ?_, fun v hv => ?_⟩
      · rw [vI_len]
        exact Nat.lt_of_le_of_lt (by omega : ws.length ≤ 100) (by decide)
      · rw [off_updN tb]
        exact Same.updN (so8.trans s9) tG
      · rw [since_upd tO]
        exact fun a o e => since_off hb5 s9 _ _ (sn8 _ _ e)
      · rw [upd_ne t1.symm]
        exact of9 D1b d18
      · rw [upd_ne t2.symm]
        exact of9 D2b d28
      · obtain ⟨t', ws', o', e, a1, a2, a3, a4, a5, a6, a7, a8⟩ := ok8 v hv
        by_cases z : t' = t
        · refine ⟨t', ws ++ [(r : Int)], o', e, a1, a2, a3, a4, a5, a6, ?_, by rw [List.length_append]; show ws.length + 1 ≤ _; omega⟩
          rw [z, upd_same, vI_add]
        · exact ⟨t', ws', o', e, a1, a2, a3, a4, a5, a6, by rw [upd_ne z]; exact of9 a3 a7, by omega⟩
    rintro σ H7 ⟨⟨v7, v8, rfl⟩, hb7, so7, sn7, _⟩
    have hP7 := Per.same sn7 hP6
    have g7 : Same G1 H7 := so7.trans off_le
    clear hKs hKK nD s56 s6 dxo lh0 hlh lk0 hlk sn7 hP6 so6 g6 hb6
    -- two turns
    refine ⟨2, rfl, by decide, by decide, ?_⟩
    refine for_range (lo := 0) (n := 2) (fun i σ H' => (∃ v9 v10 v11, σ = [some (.ref a), some (.ref b), some (.int hs.length), some (.ref q), some (.ref D1), some (.ref D2), some (.ref x), v7, v8, v9, v10, v11, none, none]) ∧ Same H7 H')
      ⟨⟨_, _, _, rfl⟩, Same.refl H7⟩ ?_ ?_
    · rintro i σ H8 hi ⟨⟨v9, v10, v11, rfl⟩, s8⟩
      have g8 := g7.trans s8
      have hP8 : Per C H8 x hs L := (hP7.same since_le).same s8
      obtain ⟨dx8, lh8, lk8, ks8, p8, _⟩ := id hP8
      refine ⟨_, rfl, x, C, dx8, _, _, rfl, p8, T.cl, T.nS, pf_size _ _ _, _, rfl, rfl, _, rfl, iteNS rfl ?_⟩
      refine ⟨_, rfl, x, dx8, _, rfl, p8, x, hs, L, rfl, hP8, fun H9 tb s9 tb0 hTb => ?_⟩
      have g9 := g8.trans s9
      refine ⟨_, rfl, q, _, _, _, rfl, rfl, SqL.of (g9 _ _ hq), at_of (j := 2) rfl rfl, tb, l3, rs, _, rfl, hTb, g9 _ _ h3, RowsL.same g9 hT, fun H10 s10 => ⟨_, rfl, iteF ?_⟩⟩
      have s810 := s8.trans (s9.trans s10)
      refine ⟨_, rfl, hs.length, rfl, by omega, by omega, ?_⟩
      refine for_range (lo := 0) (n := hs.length) (fun j σ H' => (∃ v10 v11, σ = [some (.ref a), some (.ref b), some (.int hs.length), some (.ref q), some (.ref D1), some (.ref D2), some (.ref x), v7, v8, some (.int (0 + (i : Int))), v10, v11, none, none]) ∧ Same H7 H')
        ⟨⟨_, _, rfl⟩, s810⟩ ?_ ?_
      · rintro j σ H11 hj ⟨⟨v10, v11, rfl⟩, s11⟩
        have e0 : (0 : Int) + (j : Int) = (j : Int) := Int.zero_add _
        rw [e0]
        have hP11 : Per C H11 x hs L := (hP7.same since_le).same s11
        obtain ⟨dx9, lh9, lk9, ks9, p9, _⟩ := id hP11
        obtain ⟨y, hy⟩ : ∃ y, hs[j]? = some y := ⟨_, List.getElem?_eq_getElem hj⟩
        refine ⟨_, rfl, x, dx9, _, rfl, p9, pf_said _ _ _, _, rfl, x, hs, L, j, y, rfl, hP11, hy, fun H12 l s12 l0 hl => ?_⟩
        have g12 := g7.trans (s11.trans s12)
        obtain ⟨u, hu, t0, rfl, ht0⟩ := L2.Paired.at2 hT (pT_at hy)
        refine ⟨_, rfl, l, _, rfl, hl, _, rfl, iteF ?_⟩
        refine ⟨_, rfl, _, rfl, q, _, _, _, rfl, rfl, SqL.of (g12 _ _ hq), at_of (j := 2) rfl rfl, _, rfl, l3, _, _, _, rfl, rfl, SqL.of (g12 _ _ h3), atI_nat hu, _, _, dpI (SqL.of hl), dpI (SqL.of (g12 _ _ ht0)), shI _, shI _, _, rfl, ?_⟩
        rw [eqI, decide_eq_true rfl]
        refine iteF ?_
        refine ⟨_, rfl, x, dx9, _, rfl, s12 _ _ p9, pf_heard _ _ _, _, rfl, x, hs, L, j, y, rfl, hP11.same s12, hy, ?_⟩
        refine ⟨_, rfl, q, _, _, _, rfl, rfl, SqL.of (g12 _ _ hq), at_of (j := 0) rfl rfl, _, rfl, l1, _, _, _, rfl, rfl, SqL.of (g12 _ _ h1), atI_nat (v := V.int y) (by unfold vI; rw [List.getElem?_map, hy]; rfl), rfl, _, rfl, iteNS rfl ?_⟩
        refine ⟨_, rfl, .inl ⟨rfl, _, SqL.of hl⟩, l, _, _, rfl, rfl, hl, ?_, ⟨_, _, rfl⟩, Same.updN (s11.trans s12) (s11.free l0)⟩
        rw [vI_len]
        obtain ⟨j', rfl, hj'⟩ := isW_at (List.all_eq_true.mp ha y (List.mem_of_getElem? hy))
        have := (gCan _ (List.mem_of_getElem? (at_row (R := L) (j := j') (by omega)))).len
        exact Nat.lt_of_le_of_lt (Nat.le_trans this n6) (by decide)
      · rintro σ H11 ⟨⟨v10, v11, rfl⟩, s11⟩
        exact ⟨⟨_, _, _, rfl⟩, s11⟩
    rintro σ H8 ⟨⟨v9, v10, v11, rfl⟩, s8⟩
    refine ⟨_, rfl, _, rfl, b, c, hs.length, rfl, hb7.same s8, n1, n6, fun bad H9 wbad bbad hb9 s9 => ?_⟩
    have hP9 : Per C H9 x hs L := ((hP7.same (since_same s8)).same (since_off hb5 s9)).same since_le
    refine ⟨2, rfl, by decide, by decide, ?_⟩
    refine for_range (lo := 0) (n := 2) (fun i σ H' => (∃ v13, σ = [some (.ref a), some (.ref b), some (.int hs.length), some (.ref q), some (.ref D1), some (.ref D2), some (.ref x), v7, v8, v9, v10, v11, some (.int bad), v13]) ∧ Same H9 H')
      ⟨⟨_, rfl⟩, Same.refl H9⟩ ?_ ?_
    · rintro i σ H10 hi ⟨⟨v13, rfl⟩, s10⟩
      have e0 : (0 : Int) + (i : Int) = (i : Int) := Int.zero_add _
      rw [e0]
      refine ⟨_, rfl, _, rfl, _, rfl, i, x, hs, L, bad, rfl, hi, hP9.same s10, .inr ⟨wbad, Pr.int (Nat.lt_of_le_of_lt bbad (by decide)), fun H11 q1 s11 _ hq1 => ?_⟩⟩
      refine ⟨_, rfl, by show 2 ≤ sizeLine; decide, fun q2 hq2 => neF ((Same.new hq2) _ _ hq1) upd_same rfl (iteF ?_)⟩
      have s12 := s10.trans (s11.trans (Same.new (o := .lst [.int bad, .bl true]) hq2))
      generalize upd H11 q2 (.lst [.int bad, .bl true]) = H12 at s12
      refine ⟨_, rfl, _, rfl, _, rfl, _, _, rfl, rfl, i, x, hs, L, (hs.length : Int) - 1, rfl, hi, hP9.same s12, .inl ⟨isW_of ⟨by omega, by omega⟩, fun H13 q3 s13 _ hq3 => ?_⟩⟩
      exact ⟨Nat.zero_le _, fun q4 hq4 => neF ((Same.new hq4) _ _ hq3) upd_same rfl (iteF ⟨⟨_, rfl⟩, s12.trans (s13.trans (Same.new hq4))⟩)⟩
    · rintro σ H10 _
      exact k _
end
end Toy
namespace Toy
open PySem PySem.Spec PyProof.Rows L2
/-! ### what the top has written of the errors, in short -/
section
variable {K : PySem.W.Frag} {C D : Addr} {b : Bool}
theorem kit_of (self : PySem.W.subIn K (.ref D) (.ref D) = some true) (h1 : PySem.W.isClsIn K C = true) (h2 : PySem.W.typeIn K (.ref C) = some (.type "type")) (h3 : PySem.W.subIn K (.ref D) (.ref C) = some b) : PySem.W.kitOne K (.ref D) (.ref C) = some b := by
  unfold PySem.W.kitOne
  by_cases e : D = C
  · subst e
    rw [self] at h3
    rw [if_pos (by simp), h3]
  · rw [if_neg (by simpa using e)]
    have z : ((PySem.W.clsIn K C).isSome && PySem.W.typeIn K (.ref C) == some (.type "type")) = true := by
      rw [h2]
      have h1' : (PySem.W.clsIn K C).isSome = true := h1
      rw [h1'] <;> rfl
    show (if ((PySem.W.clsIn K C).isSome && PySem.W.typeIn K (.ref C) == some (.type "type")) = true then PySem.W.subIn K (.ref D) (.ref C) else none) = some b
    rw [if_pos z]
    exact h3
theorem kit_ty (h : PySem.W.subIn K (.ref D) (.type "ValueError") = some true) : PySem.W.kitOne K (.ref D) (.type "ValueError") = some true := by
  unfold PySem.W.kitOne
  rw [if_neg (by simp)]
  show (if PySem.W.kitMeta "ValueError" = true then PySem.W.subIn K (.ref D) (.type "ValueError") else none) = some true
  rw [if_pos (by decide +kernel)]
  exact h
theorem oex_mk {nm q : Str} {N : Addr} {bs bm : List Value} {sn : List Str} {sub : List Value} {ab : Bool} {col : Option Bool} {dd : Option Addr} {k0 k1 k2 k3 k5 : Option Value} (l : K.lookup C = some (excClassObj nm q C N bs bm true sn sub ab col dd k0 k1 k2 k3 k5 "ValueError.__new__")) (r : PySem.HandSPX.refsVE bm = true)
    (sa : PySem.W.findIn K (.ref C) "__setattr__" = some (some (.builtin "object.__setattr__"))) (ex : PySem.W.subIn K (.ref C) (.type "BaseException") = some true) (ty : PySem.W.typeIn K (.ref C) = some (.type "type")) (kC : PySem.W.keepIn K (.ref C) = true) : OexC K C :=
  ⟨⟨nm, q, N, bs, bm, sn, sub, ab, col, dd, k0, k1, k2, k3, k5, l, r⟩, sa, ex, ty, kC⟩
end
section
variable {P : Program} {K : PySem.W.Frag} {mg : Str → Option Value} {C f cda cc : Addr} {qual : Str} {st : Stmt} {oc ccl cl kV doc pm ct : Value} {od cdd cld an : Option Addr} {osl ccs csl : Array (Option Value)} {vs0 : Array Value} {file : Str} {tf : Tok}
theorem ert_mk (T : OexC K C) (self : PySem.W.mroIn K C (.ref C) = some true) (noS : mg "super" = none) (top : (P.main.scope.names.lookup ("super" : Str)).isSome = false) (sta : PySem.W.nsIn K cStatics "thirdparty.any" = some none)
    (al : PySem.W.ks_superIn K C C "__init__" = some (some (.builtin "ValueError.__init__"))) (vE : PySem.W.subIn K (.ref C) (.type "ValueError") = some true)
    (lk : K.lookup f = some ⟨oc, od, .func (PySem.W.ksFn "__init__" qual (defArgs st) (defBody st) (defScope st) .none kV doc pm an (.ref cda) ct cc), osl⟩) (cd : PySem.W.codeIn K (.ref cda) qual = true) (lc : K.lookup cda = some ⟨ccl, cdd, .fields vs0, ccs⟩)
    (hv : vs0[2]? = some (.str file tf)) (hf : ((P.main.file : Str) == file) = true) (cell : K.lookup cc = some ⟨cl, cld, .cell (some (.ref C)), csl⟩) (iC : PySem.W.findIn K (.ref C) "__init__" = some (some (.ref f))) (tI : PySem.W.typeIn K (.ref f) = some (.type "function")) :
    ErT P K mg C qual st f (PySem.W.ksFn "__init__" qual (defArgs st) (defBody st) (defScope st) .none kV doc pm an (.ref cda) ct cc) :=
  ⟨⟨T, self, noS, top, sta, al, vE⟩, ⟨oc, ccl, cl, od, cdd, cld, an, osl, ccs, csl, cda, cc, kV, doc, pm, ct, vs0, file, tf, rfl, lk, cd, lc, hv, hf, cell⟩, iC, tI⟩
end
end Toy
namespace Toy
open PySem PySem.Spec PyProof.Rows L2
/-! ### What the top has written, the head -/
theorem all_mk {l : PySem.W.OpenLaw} {w : World} {K : PySem.W.Frag} {h : Heap} {mg : Str → Option Value} {fa C : Addr} {tM : Tok} (X : K.In h) (G : h.Ns mainGlobals mg) (hfa : mg "law" = some (.ref fa))
    {C2 : Addr}
    {f1 : Addr} {od1 an1 : Option Addr} {sl1 : Array (Option Value)} {oc1 kV1 dc1 pm1 cd1 ct1 : Value}
    {f2 : Addr} {od2 an2 : Option Addr} {sl2 : Array (Option Value)} {oc2 kV2 dc2 pm2 cd2 ct2 : Value}
    {f3 : Addr} {od3 an3 : Option Addr} {sl3 : Array (Option Value)} {oc3 kV3 dc3 pm3 cd3 ct3 : Value}
    {f4 : Addr} {od4 an4 : Option Addr} {sl4 : Array (Option Value)} {oc4 kV4 dc4 pm4 cd4 ct4 : Value}
    {f5 : Addr} {od5 an5 : Option Addr} {sl5 : Array (Option Value)} {oc5 kV5 dc5 pm5 cd5 ct5 : Value}
    {f6 : Addr} {od6 an6 : Option Addr} {sl6 : Array (Option Value)} {oc6 kV6 dc6 pm6 cd6 ct6 : Value}
    {f7 : Addr} {od7 an7 : Option Addr} {sl7 : Array (Option Value)} {oc7 kV7 dc7 pm7 cd7 ct7 : Value}
    {f8 : Addr} {od8 an8 : Option Addr} {sl8 : Array (Option Value)} {oc8 kV8 dc8 pm8 cd8 ct8 : Value}
    {f9 : Addr} {od9 an9 : Option Addr} {sl9 : Array (Option Value)} {oc9 kV9 dc9 pm9 cd9 ct9 : Value}
    {f10 : Addr} {od10 an10 : Option Addr} {sl10 : Array (Option Value)} {oc10 kV10 dc10 pm10 cd10 ct10 : Value}
    {f11 : Addr} {od11 an11 : Option Addr} {sl11 : Array (Option Value)} {oc11 kV11 dc11 pm11 cd11 ct11 : Value}
    {f12 : Addr} {od12 an12 : Option Addr} {sl12 : Array (Option Value)} {oc12 kV12 dc12 pm12 cd12 ct12 : Value}
    {f13 : Addr} {od13 an13 : Option Addr} {sl13 : Array (Option Value)} {oc13 kV13 dc13 pm13 cd13 ct13 : Value}
    {f14 : Addr} {od14 an14 : Option Addr} {sl14 : Array (Option Value)} {oc14 kV14 dc14 pm14 cd14 ct14 : Value}
    {f15 : Addr} {od15 an15 : Option Addr} {sl15 : Array (Option Value)} {oc15 kV15 dc15 pm15 cd15 ct15 : Value}
    {f16 : Addr} {od16 an16 : Option Addr} {sl16 : Array (Option Value)} {oc16 kV16 dc16 pm16 cd16 ct16 : Value}
    {f17 : Addr} {od17 an17 : Option Addr} {sl17 : Array (Option Value)} {oc17 kV17 dc17 pm17 cd17 ct17 : Value}
    {f18 : Addr} {od18 an18 : Option Addr} {sl18 : Array (Option Value)} {oc18 kV18 dc18 pm18 cd18 ct18 : Value}
    {f19 : Addr} {od19 an19 : Option Addr} {sl19 : Array (Option Value)} {oc19 kV19 dc19 pm19 cd19 ct19 : Value}
    {p19 : Addr} {rs19 : List Value}
    {f20 : Addr} {od20 an20 : Option Addr} {sl20 : Array (Option Value)} {oc20 kV20 dc20 pm20 cd20 ct20 : Value}
    {f21 : Addr} {od21 an21 : Option Addr} {sl21 : Array (Option Value)} {oc21 kV21 dc21 pm21 cd21 ct21 : Value}
    {f22 : Addr} {od22 an22 : Option Addr} {sl22 : Array (Option Value)} {oc22 kV22 dc22 pm22 cd22 ct22 : Value}
    {f23 : Addr} {od23 an23 : Option Addr} {sl23 : Array (Option Value)} {oc23 kV23 dc23 pm23 cd23 ct23 : Value}
    {f24 : Addr} {od24 an24 : Option Addr} {sl24 : Array (Option Value)} {oc24 kV24 dc24 pm24 cd24 ct24 : Value}
    {eM e0 e1 e2 e3 e4 e5 e6 e7 e8 e9 e10 e11 e12 e13 e14 e15 e16 e17 e18 : Addr}
    {nm2 q2 : Str} {N2 : Addr} {bs2 bm2 su2 : List Value} {sn2 : List Str} {ab2 : Bool} {co2 : Option Bool} {dd2 : Option Addr} {x2 y2 u2 v2 w2 : Option Value}
    {fi2 ca2 cc2 : Addr} {eo2 eV2 ed2 ep2 et2 ek2 el2 : Value} {ey2 ez2 ew2 eu2 : Option Addr} {es2 er2 eq2 : Array (Option Value)} {ev2 : Array Value} {ef2 : Str} {eg2 : Tok}
    (aC : PySem.W.nsIn K mainGlobals "Table" = some (some (.ref C)))
    (aC2 : PySem.W.nsIn K mainGlobals "Person" = some (some (.ref C2)))
    (pgX : PySem.W.plainGet K C2 Str.empty = true)
    (hdX : PySem.W.hasDictIn K C2 = true)
    (poX : PySem.W.plainOver K C2 = true)
    (saX : PySem.W.findIn K (.ref C2) "__setattr__" = some (some (.builtin "object.__setattr__")))
    (mkX : PySem.W.makesIn K C2 = true)
    (kcX : PySem.W.keepIn K (.ref C2) = true)
    (nX_0 : PySem.W.findIn K (.ref C2) "size" = some none)
    (nX_1 : PySem.W.findIn K (.ref C2) "_hears" = some none)
    (nX_2 : PySem.W.findIn K (.ref C2) "_says" = some none)
    (a1 : PySem.W.nsIn K mainGlobals "is_word" = some (some (.ref f1)))
    (l1 : K.lookup f1 = some ⟨oc1, od1, .func (PySem.W.fnOf "is_word" "is_word" (defArgs sIsWord) (defBody sIsWord) (defScope sIsWord) .none kV1 dc1 pm1 an1 cd1 ct1), sl1⟩)
    (c1 : PySem.W.codeIn K cd1 "is_word" = true)
    (k1 : PySem.W.keepIn K (.ref f1) = true)
    (a2 : PySem.W.nsIn K mainGlobals "all_words" = some (some (.ref f2)))
    (l2 : K.lookup f2 = some ⟨oc2, od2, .func (PySem.W.fnOf "all_words" "all_words" (defArgs sAllWords) (defBody sAllWords) (defScope sAllWords) .none kV2 dc2 pm2 an2 cd2 ct2), sl2⟩)
    (c2 : PySem.W.codeIn K cd2 "all_words" = true)
    (k2 : PySem.W.keepIn K (.ref f2) = true)
    (a3 : PySem.W.nsIn K mainGlobals "is_size" = some (some (.ref f3)))
    (l3 : K.lookup f3 = some ⟨oc3, od3, .func (PySem.W.fnOf "is_size" "is_size" (defArgs sIsSize) (defBody sIsSize) (defScope sIsSize) .none kV3 dc3 pm3 an3 cd3 ct3), sl3⟩)
    (c3 : PySem.W.codeIn K cd3 "is_size" = true)
    (k3 : PySem.W.keepIn K (.ref f3) = true)
    (a4 : PySem.W.nsIn K mainGlobals "check_size" = some (some (.ref f4)))
    (l4 : K.lookup f4 = some ⟨oc4, od4, .func (PySem.W.fnOf "check_size" "check_size" (defArgs sCheckSize) (defBody sCheckSize) (defScope sCheckSize) .none kV4 dc4 pm4 an4 cd4 ct4), sl4⟩)
    (c4 : PySem.W.codeIn K cd4 "check_size" = true)
    (k4 : PySem.W.keepIn K (.ref f4) = true)
    (a5 : PySem.W.nsIn K mainGlobals "check_word" = some (some (.ref f5)))
    (l5 : K.lookup f5 = some ⟨oc5, od5, .func (PySem.W.fnOf "check_word" "check_word" (defArgs sCheckWord) (defBody sCheckWord) (defScope sCheckWord) .none kV5 dc5 pm5 an5 cd5 ct5), sl5⟩)
    (c5 : PySem.W.codeIn K cd5 "check_word" = true)
    (k5 : PySem.W.keepIn K (.ref f5) = true)
    (a6 : PySem.W.nsIn K mainGlobals "ascending" = some (some (.ref f6)))
    (l6 : K.lookup f6 = some ⟨oc6, od6, .func (PySem.W.fnOf "ascending" "ascending" (defArgs sAsc) (defBody sAsc) (defScope sAsc) .none kV6 dc6 pm6 an6 cd6 ct6), sl6⟩)
    (c6 : PySem.W.codeIn K cd6 "ascending" = true)
    (k6 : PySem.W.keepIn K (.ref f6) = true)
    (a7 : PySem.W.findIn K (.ref C) "__init__" = some (some (.ref f7)))
    (i7 : PySem.W.isFn K (.ref f7) = true)
    (l7 : K.lookup f7 = some ⟨oc7, od7, .func (PySem.W.fnOf "__init__" "Table.__init__" (defArgs sInit) (defBody sInit) (defScope sInit) .none kV7 dc7 pm7 an7 cd7 ct7), sl7⟩)
    (c7 : PySem.W.codeIn K cd7 "Table.__init__" = true)
    (k7 : PySem.W.keepIn K (.ref f7) = true)
    (a8 : PySem.W.findIn K (.ref C) "rows" = some (some (.ref f8)))
    (i8 : PySem.W.isFn K (.ref f8) = true)
    (l8 : K.lookup f8 = some ⟨oc8, od8, .func (PySem.W.fnOf "rows" "Table.rows" (defArgs sRows) (defBody sRows) (defScope sRows) .none kV8 dc8 pm8 an8 cd8 ct8), sl8⟩)
    (c8 : PySem.W.codeIn K cd8 "Table.rows" = true)
    (k8 : PySem.W.keepIn K (.ref f8) = true)
    (a9 : PySem.W.nsIn K mainGlobals "_law_box" = some (some (.ref f9)))
    (l9 : K.lookup f9 = some ⟨oc9, od9, .func (PySem.W.fnOf "_law_box" "_law_box" (defArgs sBox) (defBody sBox) (defScope sBox) .none kV9 dc9 pm9 an9 cd9 ct9), sl9⟩)
    (c9 : PySem.W.codeIn K cd9 "_law_box" = true)
    (k9 : PySem.W.keepIn K (.ref f9) = true)
    (a10 : PySem.W.nsIn K mainGlobals "_law_take" = some (some (.ref f10)))
    (l10 : K.lookup f10 = some ⟨oc10, od10, .func (PySem.W.fnOf "_law_take" "_law_take" (defArgs sTake) (defBody sTake) (defScope sTake) .none kV10 dc10 pm10 an10 cd10 ct10), sl10⟩)
    (c10 : PySem.W.codeIn K cd10 "_law_take" = true)
    (k10 : PySem.W.keepIn K (.ref f10) = true)
    (a11 : PySem.W.nsIn K mainGlobals "_law_words" = some (some (.ref f11)))
    (l11 : K.lookup f11 = some ⟨oc11, od11, .func (PySem.W.fnOf "_law_words" "_law_words" (defArgs sWords) (defBody sWords) (defScope sWords) .none kV11 dc11 pm11 an11 cd11 ct11), sl11⟩)
    (c11 : PySem.W.codeIn K cd11 "_law_words" = true)
    (k11 : PySem.W.keepIn K (.ref f11) = true)
    (a12 : PySem.W.nsIn K mainGlobals "_law_is_int" = some (some (.ref f12)))
    (l12 : K.lookup f12 = some ⟨oc12, od12, .func (PySem.W.fnOf "_law_is_int" "_law_is_int" (defArgs sIsInt) (defBody sIsInt) (defScope sIsInt) .none kV12 dc12 pm12 an12 cd12 ct12), sl12⟩)
    (c12 : PySem.W.codeIn K cd12 "_law_is_int" = true)
    (k12 : PySem.W.keepIn K (.ref f12) = true)
    (a13 : PySem.W.nsIn K mainGlobals "_law_is_words" = some (some (.ref f13)))
    (l13 : K.lookup f13 = some ⟨oc13, od13, .func (PySem.W.fnOf "_law_is_words" "_law_is_words" (defArgs sIsWords) (defBody sIsWords) (defScope sIsWords) .none kV13 dc13 pm13 an13 cd13 ct13), sl13⟩)
    (c13 : PySem.W.codeIn K cd13 "_law_is_words" = true)
    (k13 : PySem.W.keepIn K (.ref f13) = true)
    (a14 : PySem.W.nsIn K mainGlobals "_law_single" = some (some (.ref f14)))
    (l14 : K.lookup f14 = some ⟨oc14, od14, .func (PySem.W.fnOf "_law_single" "_law_single" (defArgs sSingle) (defBody sSingle) (defScope sSingle) .none kV14 dc14 pm14 an14 cd14 ct14), sl14⟩)
    (c14 : PySem.W.codeIn K cd14 "_law_single" = true)
    (k14 : PySem.W.keepIn K (.ref f14) = true)
    (a15 : PySem.W.nsIn K mainGlobals "_law_far" = some (some (.ref f15)))
    (l15 : K.lookup f15 = some ⟨oc15, od15, .func (PySem.W.fnOf "_law_far" "_law_far" (defArgs sFar) (defBody sFar) (defScope sFar) .none kV15 dc15 pm15 an15 cd15 ct15), sl15⟩)
    (c15 : PySem.W.codeIn K cd15 "_law_far" = true)
    (k15 : PySem.W.keepIn K (.ref f15) = true)
    (a16 : PySem.W.findIn K (.ref C2) "__init__" = some (some (.ref f16)))
    (i16 : PySem.W.isFn K (.ref f16) = true)
    (l16 : K.lookup f16 = some ⟨oc16, od16, .func (PySem.W.fnOf "__init__" "Person.__init__" (defArgs sPInit) (defBody sPInit) (defScope sPInit) .none kV16 dc16 pm16 an16 cd16 ct16), sl16⟩)
    (c16 : PySem.W.codeIn K cd16 "Person.__init__" = true)
    (k16 : PySem.W.keepIn K (.ref f16) = true)
    (a17 : PySem.W.findIn K (.ref C2) "heard" = some (some (.ref f17)))
    (i17 : PySem.W.isFn K (.ref f17) = true)
    (l17 : K.lookup f17 = some ⟨oc17, od17, .func (PySem.W.fnOf "heard" "Person.heard" (defArgs sHeard) (defBody sHeard) (defScope sHeard) .none kV17 dc17 pm17 an17 cd17 ct17), sl17⟩)
    (c17 : PySem.W.codeIn K cd17 "Person.heard" = true)
    (k17 : PySem.W.keepIn K (.ref f17) = true)
    (a18 : PySem.W.findIn K (.ref C2) "said" = some (some (.ref f18)))
    (i18 : PySem.W.isFn K (.ref f18) = true)
    (l18 : K.lookup f18 = some ⟨oc18, od18, .func (PySem.W.fnOf "said" "Person.said" (defArgs sSaid) (defBody sSaid) (defScope sSaid) .none kV18 dc18 pm18 an18 cd18 ct18), sl18⟩)
    (c18 : PySem.W.codeIn K cd18 "Person.said" = true)
    (k18 : PySem.W.keepIn K (.ref f18) = true)
    (a19 : PySem.W.findIn K (.ref C2) "table" = some (some (.ref p19)))
    (g19 : PySem.W.specialIn K (.ref p19) "__get__" = some (some (.builtin "property.__get__")))
    (t19 : PySem.W.takesIn K (.ref p19) = some true)
    (r19 : PySem.W.recIn K p19 "property" = some (.ref f19 :: rs19))
    (l19 : K.lookup f19 = some ⟨oc19, od19, .func (PySem.W.fnOf "table" "Person.table" (defArgs sTabP) (defBody sTabP) (defScope sTabP) .none kV19 dc19 pm19 an19 cd19 ct19), sl19⟩)
    (c19 : PySem.W.codeIn K cd19 "Person.table" = true)
    (k19 : PySem.W.keepIn K (.ref f19) = true)
    (a20 : PySem.W.nsIn K mainGlobals "_law_outs" = some (some (.ref f20)))
    (l20 : K.lookup f20 = some ⟨oc20, od20, .func (PySem.W.fnOf "_law_outs" "_law_outs" (defArgs sOuts) (defBody sOuts) (defScope sOuts) .none kV20 dc20 pm20 an20 cd20 ct20), sl20⟩)
    (c20 : PySem.W.codeIn K cd20 "_law_outs" = true)
    (k20 : PySem.W.keepIn K (.ref f20) = true)
    (a21 : PySem.W.nsIn K mainGlobals "_law_person" = some (some (.ref f21)))
    (l21 : K.lookup f21 = some ⟨oc21, od21, .func (PySem.W.fnOf "_law_person" "_law_person" (defArgs sPersonL) (defBody sPersonL) (defScope sPersonL) .none kV21 dc21 pm21 an21 cd21 ct21), sl21⟩)
    (c21 : PySem.W.codeIn K cd21 "_law_person" = true)
    (k21 : PySem.W.keepIn K (.ref f21) = true)
    (a22 : PySem.W.nsIn K mainGlobals "_law_same" = some (some (.ref f22)))
    (l22 : K.lookup f22 = some ⟨oc22, od22, .func (PySem.W.fnOf "_law_same" "_law_same" (defArgs sSame) (defBody sSame) (defScope sSame) .none kV22 dc22 pm22 an22 cd22 ct22), sl22⟩)
    (c22 : PySem.W.codeIn K cd22 "_law_same" = true)
    (k22 : PySem.W.keepIn K (.ref f22) = true)
    (a23 : PySem.W.nsIn K mainGlobals "_law_word_error" = some (some (.ref f23)))
    (l23 : K.lookup f23 = some ⟨oc23, od23, .func (PySem.W.fnOf "_law_word_error" "_law_word_error" (defArgs sWErr) (defBody sWErr) (defScope sWErr) .none kV23 dc23 pm23 an23 cd23 ct23), sl23⟩)
    (c23 : PySem.W.codeIn K cd23 "_law_word_error" = true)
    (k23 : PySem.W.keepIn K (.ref f23) = true)
    (a24 : PySem.W.nsIn K mainGlobals "law" = some (some (.ref f24)))
    (l24 : K.lookup f24 = some ⟨oc24, od24, .func (PySem.W.fnOf "law" "law" (defArgs sLaw) (defBody sLaw) (defScope sLaw) .none kV24 dc24 pm24 an24 cd24 ct24), sl24⟩)
    (c24 : PySem.W.codeIn K cd24 "law" = true)
    (k24 : PySem.W.keepIn K (.ref f24) = true)
    (pg : PySem.W.plainGet K C Str.empty = true)
    (hd : PySem.W.hasDictIn K C = true)
    (po : PySem.W.plainOver K C = true)
    (sa : PySem.W.findIn K (.ref C) "__setattr__" = some (some (.builtin "object.__setattr__")))
    (mk : PySem.W.makesIn K C = true)
    (kc : PySem.W.keepIn K (.ref C) = true)
    (nS : PySem.W.findIn K (.ref C) "size" = some none)
    (nR : PySem.W.findIn K (.ref C) "_rows" = some none)
    (nP : PySem.W.findIn K (.ref C) "_pairs" = some none)
    (rd : PySem.W.readsIn K C (.type "type") = true)
    (rg : PySem.W.specialIn K (.ref C) "__getattribute__" = some (some (.builtin "type.__getattribute__")))
    (ms : PySem.W.findCls K (.ref C) (.type "type") "MOST" = some (.val (.int 6 tM)))
    (ia : PySem.W.findIn K (.ref C) "__class__" = some (some (.builtin "object.__class__")))
    (ic : PySem.W.specialIn K (.builtin "object.__class__") "__get__" = some (some (.builtin "getset_descriptor.__get__")))
    (it : PySem.W.takesIn K (.builtin "object.__class__") = some true)
    (im : PySem.W.mroIn K C (.type "object") = some true)
    (sf : PySem.W.selfFirst K C = true)
    (nf : PySem.W.notFirst K C (.ref C) = true)
    (z_len : PySem.W.nsIn K mainGlobals "len" = some none)
    (z_range : PySem.W.nsIn K mainGlobals "range" = some none)
    (z_all : PySem.W.nsIn K mainGlobals "all" = some none)
    (z_list : PySem.W.nsIn K mainGlobals "list" = some none)
    (z_tuple : PySem.W.nsIn K mainGlobals "tuple" = some none)
    (z_enumerate : PySem.W.nsIn K mainGlobals "enumerate" = some none)
    (z_isinstance : PySem.W.nsIn K mainGlobals "isinstance" = some none)
    (z_int : PySem.W.nsIn K mainGlobals "int" = some none)
    (z_bool : PySem.W.nsIn K mainGlobals "bool" = some none)
    (z_str : PySem.W.nsIn K mainGlobals "str" = some none)
    (z_abs : PySem.W.nsIn K mainGlobals "abs" = some none)
    (z_ValueError : PySem.W.nsIn K mainGlobals "ValueError" = some none)
    (z_super : PySem.W.nsIn K mainGlobals "super" = some none)
    (gM : PySem.W.nsIn K mainGlobals "MurmurError" = some (some (.ref eM)))
    (bM : PySem.W.isClsIn K eM = true)
    (tM_ : PySem.W.typeIn K (.ref eM) = some (.type "type"))
    (g0_ : PySem.W.nsIn K mainGlobals "BadSize" = some (some (.ref e0)))
    (b0_ : PySem.W.isClsIn K e0 = true)
    (t0_ : PySem.W.typeIn K (.ref e0) = some (.type "type"))
    (g1_ : PySem.W.nsIn K mainGlobals "BadTable" = some (some (.ref e1)))
    (b1_ : PySem.W.isClsIn K e1 = true)
    (t1_ : PySem.W.typeIn K (.ref e1) = some (.type "type"))
    (g2_ : PySem.W.nsIn K mainGlobals "UnknownWord" = some (some (.ref e2)))
    (b2_ : PySem.W.isClsIn K e2 = true)
    (t2_ : PySem.W.typeIn K (.ref e2) = some (.type "type"))
    (g3_ : PySem.W.nsIn K mainGlobals "SizeMismatch" = some (some (.ref e3)))
    (b3_ : PySem.W.isClsIn K e3 = true)
    (t3_ : PySem.W.typeIn K (.ref e3) = some (.type "type"))
    (g4_ : PySem.W.nsIn K mainGlobals "BadCount" = some (some (.ref e4)))
    (b4_ : PySem.W.isClsIn K e4 = true)
    (t4_ : PySem.W.typeIn K (.ref e4) = some (.type "type"))
    (g5_ : PySem.W.nsIn K mainGlobals "BadPerson" = some (some (.ref e5)))
    (b5_ : PySem.W.isClsIn K e5 = true)
    (t5_ : PySem.W.typeIn K (.ref e5) = some (.type "type"))
    (g6_ : PySem.W.nsIn K mainGlobals "BadLetter" = some (some (.ref e6)))
    (b6_ : PySem.W.isClsIn K e6 = true)
    (t6_ : PySem.W.typeIn K (.ref e6) = some (.type "type"))
    (g7_ : PySem.W.nsIn K mainGlobals "UnknownPerson" = some (some (.ref e7)))
    (b7_ : PySem.W.isClsIn K e7 = true)
    (t7_ : PySem.W.typeIn K (.ref e7) = some (.type "type"))
    (g8_ : PySem.W.nsIn K mainGlobals "TooMany" = some (some (.ref e8)))
    (b8_ : PySem.W.isClsIn K e8 = true)
    (t8_ : PySem.W.typeIn K (.ref e8) = some (.type "type"))
    (g9_ : PySem.W.nsIn K mainGlobals "BadPattern" = some (some (.ref e9)))
    (b9_ : PySem.W.isClsIn K e9 = true)
    (t9_ : PySem.W.typeIn K (.ref e9) = some (.type "type"))
    (g10_ : PySem.W.nsIn K mainGlobals "SameWord" = some (some (.ref e10)))
    (b10_ : PySem.W.isClsIn K e10 = true)
    (t10_ : PySem.W.typeIn K (.ref e10) = some (.type "type"))
    (g11_ : PySem.W.nsIn K mainGlobals "UnknownClue" = some (some (.ref e11)))
    (b11_ : PySem.W.isClsIn K e11 = true)
    (t11_ : PySem.W.typeIn K (.ref e11) = some (.type "type"))
    (g12_ : PySem.W.nsIn K mainGlobals "BadPlace" = some (some (.ref e12)))
    (b12_ : PySem.W.isClsIn K e12 = true)
    (t12_ : PySem.W.typeIn K (.ref e12) = some (.type "type"))
    (g13_ : PySem.W.nsIn K mainGlobals "TooLong" = some (some (.ref e13)))
    (b13_ : PySem.W.isClsIn K e13 = true)
    (t13_ : PySem.W.typeIn K (.ref e13) = some (.type "type"))
    (g14_ : PySem.W.nsIn K mainGlobals "Melted" = some (some (.ref e14)))
    (b14_ : PySem.W.isClsIn K e14 = true)
    (t14_ : PySem.W.typeIn K (.ref e14) = some (.type "type"))
    (g15_ : PySem.W.nsIn K mainGlobals "NothingToUndo" = some (some (.ref e15)))
    (b15_ : PySem.W.isClsIn K e15 = true)
    (t15_ : PySem.W.typeIn K (.ref e15) = some (.type "type"))
    (g16_ : PySem.W.nsIn K mainGlobals "NothingToRedo" = some (some (.ref e16)))
    (b16_ : PySem.W.isClsIn K e16 = true)
    (t16_ : PySem.W.typeIn K (.ref e16) = some (.type "type"))
    (g17_ : PySem.W.nsIn K mainGlobals "Refused" = some (some (.ref e17)))
    (b17_ : PySem.W.isClsIn K e17 = true)
    (t17_ : PySem.W.typeIn K (.ref e17) = some (.type "type"))
    (g18_ : PySem.W.nsIn K mainGlobals "BadLine" = some (some (.ref e18)))
    (b18_ : PySem.W.isClsIn K e18 = true)
    (t18_ : PySem.W.typeIn K (.ref e18) = some (.type "type"))
    (stn : PySem.W.nsIn K cStatics "thirdparty.any" = some none)
    (top_ : (l.prog.main.scope.names.lookup ("super" : Str)).isSome = false)
    (lC2 : K.lookup e2 = some (excClassObj nm2 q2 e2 N2 bs2 bm2 true sn2 su2 ab2 co2 dd2 x2 y2 u2 v2 w2 "ValueError.__new__"))
    (rV2 : PySem.HandSPX.refsVE bm2 = true)
    (sa2 : PySem.W.findIn K (.ref e2) "__setattr__" = some (some (.builtin "object.__setattr__")))
    (ex2 : PySem.W.subIn K (.ref e2) (.type "BaseException") = some true)
    (kC2 : PySem.W.keepIn K (.ref e2) = true)
    (se2 : PySem.W.mroIn K e2 (.ref e2) = some true)
    (vE2 : PySem.W.subIn K (.ref e2) (.type "ValueError") = some true)
    (al2 : PySem.W.ks_superIn K e2 e2 "__init__" = some (some (.builtin "ValueError.__init__")))
    (iI2 : PySem.W.findIn K (.ref e2) "__init__" = some (some (.ref fi2)))
    (tI2 : PySem.W.typeIn K (.ref fi2) = some (.type "function"))
    (lk2 : K.lookup fi2 = some ⟨eo2, ey2, .func (PySem.W.ksFn "__init__" "UnknownWord.__init__" (defArgs sUnknownWordI) (defBody sUnknownWordI) (defScope sUnknownWordI) .none eV2 ed2 ep2 ez2 (.ref ca2) et2 cc2), es2⟩)
    (cd2_ : PySem.W.codeIn K (.ref ca2) "UnknownWord.__init__" = true)
    (lc2 : K.lookup ca2 = some ⟨ek2, ew2, .fields ev2, er2⟩)
    (vs2 : ev2[2]? = some (.str ef2 eg2))
    (fl2 : ((l.prog.main.file : Str) == ef2) = true)
    (ce2 : K.lookup cc2 = some ⟨el2, eu2, .cell (some (.ref e2)), eq2⟩)
    (no2_0 : PySem.W.findIn K (.ref e2) "word" = some none)
    (xg2 : PySem.W.findIn K (.ref e2) "__getattribute__" = some (some (.builtin "BaseException.__getattribute__")))
    (xk2 : PySem.W.findIn K (.ref e2) "__getattr__" = some none)
    (xd2 : PySem.W.hasDictIn K e2 = true)
    (xa2 : PySem.W.findIn K (.ref e2) "__class__" = some (some (.builtin "object.__class__")))
    (xm2 : PySem.W.mroIn K e2 (.type "object") = some true)
    (sM2 : PySem.W.subIn K (.ref e2) (.ref eM) = some true)
    (s2_0 : PySem.W.subIn K (.ref e2) (.ref e0) = some false)
    (s2_1 : PySem.W.subIn K (.ref e2) (.ref e1) = some false)
    (s2_2 : PySem.W.subIn K (.ref e2) (.ref e2) = some true)
    (s2_3 : PySem.W.subIn K (.ref e2) (.ref e3) = some false)
    (s2_4 : PySem.W.subIn K (.ref e2) (.ref e4) = some false)
    (s2_5 : PySem.W.subIn K (.ref e2) (.ref e5) = some false)
    (s2_6 : PySem.W.subIn K (.ref e2) (.ref e6) = some false)
    (s2_7 : PySem.W.subIn K (.ref e2) (.ref e7) = some false)
    (s2_8 : PySem.W.subIn K (.ref e2) (.ref e8) = some false)
    (s2_9 : PySem.W.subIn K (.ref e2) (.ref e9) = some false)
    (s2_10 : PySem.W.subIn K (.ref e2) (.ref e10) = some false)
    (s2_11 : PySem.W.subIn K (.ref e2) (.ref e11) = some false)
    (s2_12 : PySem.W.subIn K (.ref e2) (.ref e12) = some false)
    (s2_13 : PySem.W.subIn K (.ref e2) (.ref e13) = some false)
    (s2_14 : PySem.W.subIn K (.ref e2) (.ref e14) = some false)
    (s2_15 : PySem.W.subIn K (.ref e2) (.ref e15) = some false)
    (s2_16 : PySem.W.subIn K (.ref e2) (.ref e16) = some false)
    (s2_17 : PySem.W.subIn K (.ref e2) (.ref e17) = some false)
    (s2_18 : PySem.W.subIn K (.ref e2) (.ref e18) = some false)
    : ∃ fd : FuncData, (∀ (s : Shared) (v : Value), BindsTo s fd ⟨[v], []⟩ [("_law_script", v)]) ∧ ∀ base : Heap, K.In base → base.Ns mainGlobals mg → FnOk l.prog w K mg base CX0 7 fa fd ["_law_script"] (spLaw K) := by
  have e := hfa.symm.trans (PySem.W.mg_of X G a24)
  cases e
  have F1 := fun_mk (st := sIsWord) l1 c1 k1
  have b1 := F1.binds (ps := ["word", "size"]) fun _ _ _ _ _ _ us hl => match us, hl with | [_, _], _ => rfl
  have F2 := fun_mk (st := sAllWords) l2 c2 k2
  have b2 := F2.binds (ps := ["words", "size"]) fun _ _ _ _ _ _ us hl => match us, hl with | [_, _], _ => rfl
  have F3 := fun_mk (st := sIsSize) l3 c3 k3
  have b3 := F3.binds (ps := ["size"]) fun _ _ _ _ _ _ us hl => match us, hl with | [_], _ => rfl
  have F4 := fun_mk (st := sCheckSize) l4 c4 k4
  have b4 := F4.binds (ps := ["size"]) fun _ _ _ _ _ _ us hl => match us, hl with | [_], _ => rfl
  have F5 := fun_mk (st := sCheckWord) l5 c5 k5
  have b5 := F5.binds (ps := ["word", "size"]) fun _ _ _ _ _ _ us hl => match us, hl with | [_, _], _ => rfl
  have F6 := fun_mk (st := sAsc) l6 c6 k6
  have b6 := F6.binds (ps := ["words", "size"]) fun _ _ _ _ _ _ us hl => match us, hl with | [_, _], _ => rfl
  have F7 := fun_mk (st := sInit) l7 c7 k7
  have b7 := F7.binds (ps := ["self", "rows"]) fun _ _ _ _ _ _ us hl => match us, hl with | [_, _], _ => rfl
  have F8 := fun_mk (st := sRows) l8 c8 k8
  have b8 := F8.binds (ps := ["self"]) fun _ _ _ _ _ _ us hl => match us, hl with | [_], _ => rfl
  have F9 := fun_mk (st := sBox) l9 c9 k9
  have b9 := F9.binds (ps := ["_law_script"]) fun _ _ _ _ _ _ us hl => match us, hl with | [_], _ => rfl
  have F10 := fun_mk (st := sTake) l10 c10 k10
  have b10 := F10.binds (ps := ["_law_box_here", "_law_many"]) fun _ _ _ _ _ _ us hl => match us, hl with | [_, _], _ => rfl
  have F11 := fun_mk (st := sWords) l11 c11 k11
  have b11 := F11.binds (ps := ["_law_box_here", "_law_n", "_law_least"]) fun _ _ _ _ _ _ us hl => match us, hl with | [_, _, _], _ => rfl
  have F12 := fun_mk (st := sIsInt) l12 c12 k12
  have b12 := F12.binds (ps := ["_law_value"]) fun _ _ _ _ _ _ us hl => match us, hl with | [_], _ => rfl
  have F13 := fun_mk (st := sIsWords) l13 c13 k13
  have b13 := F13.binds (ps := ["_law_value"]) fun _ _ _ _ _ _ us hl => match us, hl with | [_], _ => rfl
  have F14 := fun_mk (st := sSingle) l14 c14 k14
  have b14 := F14.binds (ps := ["_law_e"]) fun _ _ _ _ _ _ us hl => match us, hl with | [_], _ => rfl
  have F15 := fun_mk (st := sFar) l15 c15 k15
  have b15 := F15.binds (ps := ["_law_box_here", "_law_n"]) fun _ _ _ _ _ _ us hl => match us, hl with | [_, _], _ => rfl
  have F16 := fun_mk (st := sPInit) l16 c16 k16
  have b16 := F16.binds (ps := ["self", "hears", "says"]) fun _ _ _ _ _ _ us hl => match us, hl with | [_, _, _], _ => rfl
  have F17 := fun_mk (st := sHeard) l17 c17 k17
  have b17 := F17.binds (ps := ["self", "word"]) fun _ _ _ _ _ _ us hl => match us, hl with | [_, _], _ => rfl
  have F18 := fun_mk (st := sSaid) l18 c18 k18
  have b18 := F18.binds (ps := ["self", "word"]) fun _ _ _ _ _ _ us hl => match us, hl with | [_, _], _ => rfl
  have F19 := fun_mk (st := sTabP) l19 c19 k19
  have b19 := F19.binds (ps := ["self"]) fun _ _ _ _ _ _ us hl => match us, hl with | [_], _ => rfl
  have F20 := fun_mk (st := sOuts) l20 c20 k20
  have b20 := F20.binds (ps := ["_law_box_here", "_law_n"]) fun _ _ _ _ _ _ us hl => match us, hl with | [_, _], _ => rfl
  have F21 := fun_mk (st := sPersonL) l21 c21 k21
  have b21 := F21.binds (ps := ["_law_box_here", "_law_n"]) fun _ _ _ _ _ _ us hl => match us, hl with | [_, _], _ => rfl
  have F22 := fun_mk (st := sSame) l22 c22 k22
  have b22 := F22.binds (ps := ["_law_table", "_law_rows"]) fun _ _ _ _ _ _ us hl => match us, hl with | [_, _], _ => rfl
  have F23 := fun_mk (st := sWErr) l23 c23 k23
  have b23 := F23.binds (ps := ["_law_which", "_law_person_here", "_law_word"]) fun _ _ _ _ _ _ us hl => match us, hl with | [_, _, _], _ => rfl
  have F24 := fun_mk (st := sLaw) l24 c24 k24
  have B : Bt mg := ⟨(PySem.W.mg_none_of X G z_len), (PySem.W.mg_none_of X G z_range), (PySem.W.mg_none_of X G z_all), (PySem.W.mg_none_of X G z_list), (PySem.W.mg_none_of X G z_tuple), (PySem.W.mg_none_of X G z_enumerate), (PySem.W.mg_none_of X G z_isinstance), (PySem.W.mg_none_of X G z_int), (PySem.W.mg_none_of X G z_bool), (PySem.W.mg_none_of X G z_str), (PySem.W.mg_none_of X G z_abs)⟩
  have T : CT K mg C := ⟨PySem.W.mg_of X G aC, ⟨pg, hd, po, sa⟩, ⟨rd, rg⟩, ⟨_, ms⟩, nS, nR, nP⟩
  have TX : PT K mg C2 := ⟨⟨pgX, hdX, poX, saX⟩, nX_0, nX_1, nX_2⟩
  have I : C8.InsC K C := ⟨⟨pg, hd, po, sa⟩, ia, ic, it, im, by unfold PySem.W.kitOne; rw [if_pos (by simp)]⟩
  have EG : ErrG mg ⟨eM, e0, e1, e2, e3, e4, e5, e6, e7, e8, e9, e10, e11, e12, e13, e14, e15, e16, e17, e18⟩ := ⟨PySem.W.mg_of X G gM, PySem.W.mg_of X G g0_, PySem.W.mg_of X G g1_, PySem.W.mg_of X G g2_, PySem.W.mg_of X G g3_, PySem.W.mg_of X G g4_, PySem.W.mg_of X G g5_, PySem.W.mg_of X G g6_, PySem.W.mg_of X G g7_, PySem.W.mg_of X G g8_, PySem.W.mg_of X G g9_, PySem.W.mg_of X G g10_, PySem.W.mg_of X G g11_, PySem.W.mg_of X G g12_, PySem.W.mg_of X G g13_, PySem.W.mg_of X G g14_, PySem.W.mg_of X G g15_, PySem.W.mg_of X G g16_, PySem.W.mg_of X G g17_, PySem.W.mg_of X G g18_, (PySem.W.mg_none_of X G z_ValueError), (PySem.W.mg_none_of X G z_isinstance), (PySem.W.mg_none_of X G z_len)⟩
  have HK : Hk l.prog K mg ⟨eM, e0, e1, e2, e3, e4, e5, e6, e7, e8, e9, e10, e11, e12, e13, e14, e15, e16, e17, e18⟩ := ⟨EG, ⟨_, _, F14, PySem.W.mg_of X G a14, b14⟩⟩
  have O2 := oex_mk lC2 rV2 sa2 ex2 t2_ kC2
  have T2 := ert_mk (P := l.prog) (mg := mg) (st := sUnknownWordI) O2 se2 (PySem.W.mg_none_of X G z_super) top_ stn al2 vE2 lk2 cd2_ lc2 vs2 fl2 ce2 iI2 tI2
  have R2 : Er l.prog K mg "UnknownWord" ["word"] e2 := ⟨O2, PySem.W.mg_of X G g2_, _, _, iI2, tI2, .all fun us hl => match us, hl with | [_, _], _ => rfl, fun w base => ok_UnknownWordI T2 no2_0⟩
  have Q2 : KitsG K ⟨eM, e0, e1, e2, e3, e4, e5, e6, e7, e8, e9, e10, e11, e12, e13, e14, e15, e16, e17, e18⟩ e2 := ⟨⟨xg2, xk2, ex2, xd2, xa2, ic, it, xm2⟩, kit_of se2 bM tM_ sM2, kit_ty vE2, false, false, true, false, false, false, false, false, false, false, false, false, false, false, false, false, false, false, false, kit_of se2 b0_ t0_ s2_0, kit_of se2 b1_ t1_ s2_1, kit_of se2 b2_ t2_ s2_2, kit_of se2 b3_ t3_ s2_3, kit_of se2 b4_ t4_ s2_4, kit_of se2 b5_ t5_ s2_5, kit_of se2 b6_ t6_ s2_6, kit_of se2 b7_ t7_ s2_7, kit_of se2 b8_ t8_ s2_8, kit_of se2 b9_ t9_ s2_9, kit_of se2 b10_ t10_ s2_10, kit_of se2 b11_ t11_ s2_11, kit_of se2 b12_ t12_ s2_12, kit_of se2 b13_ t13_ s2_13, kit_of se2 b14_ t14_ s2_14, kit_of se2 b15_ t15_ s2_15, kit_of se2 b16_ t16_ s2_16, kit_of se2 b17_ t17_ s2_17, kit_of se2 b18_ t18_ s2_18, by decide⟩
  have V2 : ErX l.prog K mg ⟨eM, e0, e1, e2, e3, e4, e5, e6, e7, e8, e9, e10, e11, e12, e13, e14, e15, e16, e17, e18⟩ "UnknownWord" ["word"] e2 := ⟨R2, Q2, fun n hn => by
    rcases List.mem_cons.mp hn with e | hn
    · rw [e]; exact no2_0
    cases hn⟩
  have X2_2 := PySem.W.exm_ref ex2 xd2 t2_ s2_2
  have L : Lt K mg := ⟨B, ⟨_, _, F10, PySem.W.mg_of X G a10, b10⟩, ⟨_, _, F11, PySem.W.mg_of X G a11, b11⟩⟩
  have Gg : Gs K mg C := ⟨B, T, ⟨_, _, F1, PySem.W.mg_of X G a1, b1⟩, ⟨_, _, F2, PySem.W.mg_of X G a2, b2⟩, ⟨_, _, F3, PySem.W.mg_of X G a3, b3⟩, ⟨_, _, F4, PySem.W.mg_of X G a4, b4⟩, ⟨_, _, F5, PySem.W.mg_of X G a5, b5⟩, ⟨_, _, F6, PySem.W.mg_of X G a6, b6⟩⟩
  have V : Vt K mg C := ⟨Gg, I, ⟨_, _, F12, PySem.W.mg_of X G a12, b12⟩, ⟨_, _, F13, PySem.W.mg_of X G a13, b13⟩, ⟨_, _, F8, ⟨a8, i8, k8⟩, b8⟩⟩
  have A : Al l.prog K mg ⟨eM, e0, e1, e2, e3, e4, e5, e6, e7, e8, e9, e10, e11, e12, e13, e14, e15, e16, e17, e18⟩ C C2 := ⟨L, V, TX, PySem.W.mg_of X G aC2, ⟨_, _, F7, ⟨mk, a7, i7, kc⟩, b7⟩, ⟨_, _, F16, ⟨mkX, a16, i16, kcX⟩, b16⟩, ⟨_, _, F17, ⟨a17, i17, k17⟩, b17⟩, ⟨_, _, F18, ⟨a18, i18, k18⟩, b18⟩, ⟨_, _, _, F19, ⟨a19, g19, t19, _, r19⟩, b19⟩, ⟨_, _, F9, PySem.W.mg_of X G a9, b9⟩, ⟨_, _, F20, PySem.W.mg_of X G a20, b20⟩, ⟨_, _, F21, PySem.W.mg_of X G a21, b21⟩, ⟨_, _, F15, PySem.W.mg_of X G a15, b15⟩, ⟨_, _, F22, PySem.W.mg_of X G a22, b22⟩, ⟨_, _, F23, PySem.W.mg_of X G a23, b23⟩, HK, V2, X2_2⟩
  exact ⟨PySem.W.fnOf "law" "law" (defArgs sLaw) (defBody sLaw) (defScope sLaw) .none kV24 dc24 pm24 an24 cd24 ct24, fun s v => .of_eq rfl, fun base _ _ =>
    ok_law F24 A⟩
theorem walk {l : PySem.W.OpenLaw} {q : Program} {loose : List Str} {XP : (Str → Option Value) → Heap → Prop} {YP : World → Heap → Prop} {d : DefRec} {K : Params → PySem.W.Frag} (hn : l.most = some 63) (hdf : d.params.defaults = [])
    (hY : ∀ (w : World) (h : Heap), YP w h → (K w.params).In h)
    (F : ∀ (w : World) (mg : Str → Option Value) (fa : Addr) (h : Heap), (K w.params).In h → h.Ns mainGlobals mg → mg d.name = some (.ref fa) →
      ∃ fd : FuncData, (∀ (s : Shared) (u : Value), BindsTo s fd ⟨[u], []⟩ [("_law_script", u)]) ∧ ∀ base : Heap, (K w.params).In base → base.Ns mainGlobals mg → FnOk l.prog w (K w.params) mg base CX0 7 fa fd ["_law_script"] (spLaw (K w.params))) :
    PySem.W.WalkO q loose XP YP l.row.toRowW d [] (fun f vs => PySem.call f vs) :=
  L2.walk_of (n := 63) (k := 7) (x := "_law_script") (CX := fun _ => CX0) (sp := fun w => spLaw (K w.params)) hn (by decide) hdf ⟨rfl, by decide, by decide⟩ hY F (fun _ _ a ns hl _ hS => ⟨a, ns, rfl, hS, hl, fun _ => rfl⟩) fun _ _ _ _ _ z => z
end Toy
open PySem PySem.W PyProof.Rows in
set_option maxRecDepth 100000 in
set_option maxHeartbeats 0 in
theorem PySem.Challenge.cw_murmurline_k12_person_said_holds : PySem.Challenge.rw_murmurline_k12_person_said.Holds := by
  w_on; o_law; k_head; (case hw => w_witness2)
  k_fill
  refine Toy.walk (l := PySem.Challenge.rw_murmurline_k12_person_said) rfl rfl (fun w h Y => PySem.W.kIn_of Y) ?F
  case F =>
    intro w mg fa h KX G hmg
    refine' Toy.all_mk KX G hmg ?aC ?aC2 ?pgX ?hdX ?poX ?saX ?mkX ?kcX ?nX_0 ?nX_1 ?nX_2 ?a1 ?l1 ?c1 ?k1 ?a2 ?l2 ?c2 ?k2 ?a3 ?l3 ?c3 ?k3 ?a4 ?l4 ?c4 ?k4 ?a5 ?l5 ?c5 ?k5 ?a6 ?l6 ?c6 ?k6 ?a7 ?i7 ?l7 ?c7 ?k7 ?a8 ?i8 ?l8 ?c8 ?k8 ?a9 ?l9 ?c9 ?k9 ?a10 ?l10 ?c10 ?k10 ?a11 ?l11 ?c11 ?k11 ?a12 ?l12 ?c12 ?k12 ?a13 ?l13 ?c13 ?k13 ?a14 ?l14 ?c14 ?k14 ?a15 ?l15 ?c15 ?k15 ?a16 ?i16 ?l16 ?c16 ?k16 ?a17 ?i17 ?l17 ?c17 ?k17 ?a18 ?i18 ?l18 ?c18 ?k18 ?a19 ?g19 ?t19 ?r19 ?l19 ?c19 ?k19 ?a20 ?l20 ?c20 ?k20 ?a21 ?l21 ?c21 ?k21 ?a22 ?l22 ?c22 ?k22 ?a23 ?l23 ?c23 ?k23 ?a24 ?l24 ?c24 ?k24 ?pg ?hd ?po ?sa ?mk ?kc ?nS ?nR ?nP ?rd ?rg ?ms ?ia ?ic ?it ?im ?sf ?nf ?z_len ?z_range ?z_all ?z_list ?z_tuple ?z_enumerate ?z_isinstance ?z_int ?z_bool ?z_str ?z_abs ?z_ValueError ?z_super ?gM ?bM ?tM_ ?g0_ ?b0_ ?t0_ ?g1_ ?b1_ ?t1_ ?g2_ ?b2_ ?t2_ ?g3_ ?b3_ ?t3_ ?g4_ ?b4_ ?t4_ ?g5_ ?b5_ ?t5_ ?g6_ ?b6_ ?t6_ ?g7_ ?b7_ ?t7_ ?g8_ ?b8_ ?t8_ ?g9_ ?b9_ ?t9_ ?g10_ ?b10_ ?t10_ ?g11_ ?b11_ ?t11_ ?g12_ ?b12_ ?t12_ ?g13_ ?b13_ ?t13_ ?g14_ ?b14_ ?t14_ ?g15_ ?b15_ ?t15_ ?g16_ ?b16_ ?t16_ ?g17_ ?b17_ ?t17_ ?g18_ ?b18_ ?t18_ ?stn ?top_ ?lC2 ?rV2 ?sa2 ?ex2 ?kC2 ?se2 ?vE2 ?al2 ?iI2 ?tI2 ?lk2 ?cd2_ ?lc2 ?vs2 ?fl2 ?ce2 ?no2_0 ?xg2 ?xk2 ?xd2 ?xa2 ?xm2 ?sM2 ?s2_0 ?s2_1 ?s2_2 ?s2_3 ?s2_4 ?s2_5 ?s2_6 ?s2_7 ?s2_8 ?s2_9 ?s2_10 ?s2_11 ?s2_12 ?s2_13 ?s2_14 ?s2_15 ?s2_16 ?s2_17 ?s2_18
    (case aC => k_is)
    (case aC2 => k_is)
    (case pgX => k_is)
    (case hdX => k_is)
    (case poX => k_is)
    (case saX => k_is)
    (case mkX => k_is)
    (case kcX => k_is)
    (case nX_0 => k_is)
    (case nX_1 => k_is)
    (case nX_2 => k_is)
    (case a1 => k_is)
    (case l1 => k_is)
    (case c1 => k_is)
    (case k1 => k_is)
    (case a2 => k_is)
    (case l2 => k_is)
    (case c2 => k_is)
    (case k2 => k_is)
    (case a3 => k_is)
    (case l3 => k_is)
    (case c3 => k_is)
    (case k3 => k_is)
    (case a4 => k_is)
    (case l4 => k_is)
    (case c4 => k_is)
    (case k4 => k_is)
    (case a5 => k_is)
    (case l5 => k_is)
    (case c5 => k_is)
    (case k5 => k_is)
    (case a6 => k_is)
    (case l6 => k_is)
    (case c6 => k_is)
    (case k6 => k_is)
    (case a7 => k_is)
    (case i7 => k_is)
    (case l7 => k_is)
    (case c7 => k_is)
    (case k7 => k_is)
    (case a8 => k_is)
    (case i8 => k_is)
    (case l8 => k_is)
    (case c8 => k_is)
    (case k8 => k_is)
    (case a9 => k_is)
    (case l9 => k_is)
    (case c9 => k_is)
    (case k9 => k_is)
    (case a10 => k_is)
    (case l10 => k_is)
    (case c10 => k_is)
    (case k10 => k_is)
    (case a11 => k_is)
    (case l11 => k_is)
    (case c11 => k_is)
    (case k11 => k_is)
    (case a12 => k_is)
    (case l12 => k_is)
    (case c12 => k_is)
    (case k12 => k_is)
    (case a13 => k_is)
    (case l13 => k_is)
    (case c13 => k_is)
    (case k13 => k_is)
    (case a14 => k_is)
    (case l14 => k_is)
    (case c14 => k_is)
    (case k14 => k_is)
    (case a15 => k_is)
    (case l15 => k_is)
    (case c15 => k_is)
    (case k15 => k_is)
    (case a16 => k_is)
    (case i16 => k_is)
    (case l16 => k_is)
    (case c16 => k_is)
    (case k16 => k_is)
    (case a17 => k_is)
    (case i17 => k_is)
    (case l17 => k_is)
    (case c17 => k_is)
    (case k17 => k_is)
    (case a18 => k_is)
    (case i18 => k_is)
    (case l18 => k_is)
    (case c18 => k_is)
    (case k18 => k_is)
    (case a19 => k_is)
    (case g19 => k_is)
    (case t19 => k_is)
    (case r19 => k_is)
    (case l19 => k_is)
    (case c19 => k_is)
    (case k19 => k_is)
    (case a20 => k_is)
    (case l20 => k_is)
    (case c20 => k_is)
    (case k20 => k_is)
    (case a21 => k_is)
    (case l21 => k_is)
    (case c21 => k_is)
    (case k21 => k_is)
    (case a22 => k_is)
    (case l22 => k_is)
    (case c22 => k_is)
    (case k22 => k_is)
    (case a23 => k_is)
    (case l23 => k_is)
    (case c23 => k_is)
    (case k23 => k_is)
    (case a24 => k_is)
    (case l24 => k_is)
    (case c24 => k_is)
    (case k24 => k_is)
    (case pg => k_is)
    (case hd => k_is)
    (case po => k_is)
    (case sa => k_is)
    (case mk => k_is)
    (case kc => k_is)
    (case nS => k_is)
    (case nR => k_is)
    (case nP => k_is)
    (case rd => k_is)
    (case rg => k_is)
    (case ms => k_is)
    (case ia => k_is)
    (case ic => k_is)
    (case it => k_is)
    (case im => k_is)
    (case sf => k_is)
    (case nf => k_is)
    (case z_len => k_is)
    (case z_range => k_is)
    (case z_all => k_is)
    (case z_list => k_is)
    (case z_tuple => k_is)
    (case z_enumerate => k_is)
    (case z_isinstance => k_is)
    (case z_int => k_is)
    (case z_bool => k_is)
    (case z_str => k_is)
    (case z_abs => k_is)
    (case z_ValueError => k_is)
    (case z_super => k_is)
    (case gM => k_is)
    (case bM => k_is)
    (case tM_ => k_is)
    (case g0_ => k_is)
    (case b0_ => k_is)
    (case t0_ => k_is)
    (case g1_ => k_is)
    (case b1_ => k_is)
    (case t1_ => k_is)
    (case g2_ => k_is)
    (case b2_ => k_is)
    (case t2_ => k_is)
    (case g3_ => k_is)
    (case b3_ => k_is)
    (case t3_ => k_is)
    (case g4_ => k_is)
    (case b4_ => k_is)
    (case t4_ => k_is)
    (case g5_ => k_is)
    (case b5_ => k_is)
    (case t5_ => k_is)
    (case g6_ => k_is)
    (case b6_ => k_is)
    (case t6_ => k_is)
    (case g7_ => k_is)
    (case b7_ => k_is)
    (case t7_ => k_is)
    (case g8_ => k_is)
    (case b8_ => k_is)
    (case t8_ => k_is)
    (case g9_ => k_is)
    (case b9_ => k_is)
    (case t9_ => k_is)
    (case g10_ => k_is)
    (case b10_ => k_is)
    (case t10_ => k_is)
    (case g11_ => k_is)
    (case b11_ => k_is)
    (case t11_ => k_is)
    (case g12_ => k_is)
    (case b12_ => k_is)
    (case t12_ => k_is)
    (case g13_ => k_is)
    (case b13_ => k_is)
    (case t13_ => k_is)
    (case g14_ => k_is)
    (case b14_ => k_is)
    (case t14_ => k_is)
    (case g15_ => k_is)
    (case b15_ => k_is)
    (case t15_ => k_is)
    (case g16_ => k_is)
    (case b16_ => k_is)
    (case t16_ => k_is)
    (case g17_ => k_is)
    (case b17_ => k_is)
    (case t17_ => k_is)
    (case g18_ => k_is)
    (case b18_ => k_is)
    (case t18_ => k_is)
    (case stn => k_is)
    (case top_ => exact rfl)
    (case lC2 => k_is)
    (case rV2 => decide +kernel)
    (case sa2 => k_is)
    (case ex2 => k_is)
    (case kC2 => k_is)
    (case se2 => k_is)
    (case vE2 => k_is)
    (case al2 => ks_is)
    (case iI2 => k_is)
    (case tI2 => k_is)
    (case lk2 => k_is)
    (case cd2_ => k_is)
    (case lc2 => k_is)
    (case vs2 => exact rfl)
    (case fl2 => decide +kernel)
    (case ce2 => k_is)
    (case no2_0 => k_is)
    (case xg2 => k_is)
    (case xk2 => k_is)
    (case xd2 => k_is)
    (case xa2 => k_is)
    (case xm2 => k_is)
    (case sM2 => k_is)
    (case s2_0 => k_is)
    (case s2_1 => k_is)
    (case s2_2 => k_is)
    (case s2_3 => k_is)
    (case s2_4 => k_is)
    (case s2_5 => k_is)
    (case s2_6 => k_is)
    (case s2_7 => k_is)
    (case s2_8 => k_is)
    (case s2_9 => k_is)
    (case s2_10 => k_is)
    (case s2_11 => k_is)
    (case s2_12 => k_is)
    (case s2_13 => k_is)
    (case s2_14 => k_is)
    (case s2_15 => k_is)
    (case s2_16 => k_is)
    (case s2_17 => k_is)
    (case s2_18 => k_is)
