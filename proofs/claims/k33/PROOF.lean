import PyProof.Rows.All
import Wide.All
import OpenK.AllK
import Wide.FinOn
import HandS.ForMost
import HandS.Deep
import HandS.SlotsOwn
import HandS.IsInst
import HandS.ClsMeth
import KE.GoesEnum
import HandS.Walk
import HandS.Codes
import HandS.Conv
import HandS.Style
import PySem.Challenge.RW_murmurline_k33_lost_papers
set_option Elab.async false
set_option linter.all false
set_option maxRecDepth 100000
set_option maxHeartbeats 4000000
set_option exponentiation.threshold 2000
namespace L2
open PySem PySem.Spec PyProof.Rows
/-- x in t, t a tuple of data -/
def rInT (K : PySem.W.Frag) : R2 := fun x y H Q => ∃ d ds, Dp K H x d ∧ Dp K H y (.tuple ds) ∧ SeqAt.shaped d = true ∧ SeqAt.shaped (.tuple ds) = true ∧ Q (.bl (ds.any fun z => PyData.eqv z d)) H
section
variable {X : Cx} {CX : CXT} {k : Nat} {C f : Addr} {fd : FuncData} {ps : List Str} {sp : Sp} {E : XK}
theorem op_inT (hu : X.A.units + 65 < cLine) : OpR X (compareOp .In) (rInT X.K) := by
  intro pins s σ H x y v u Q I rx ry h
  obtain ⟨d, ds, hd, he, sd, se, q⟩ := h
  obtain ⟨as, r1⟩ := Dp.reads I d x v hd rx
  obtain ⟨bs, r2⟩ := Dp.reads I (.tuple ds) y u he ry
  have hx : PyData.canLayAll0 ds = true := SeqAt.canLay_of_shaped se
  exact SeqAt.in_tuple_reads r2 r1 hx (SeqAt.canLay_of_shaped sd) (by have := SeqAt.depth_of_shaped sd; have h2 := Nat.min_le_right (PyData.depthAll ds) d.depth; omega) ⟨.bl _, H, I, rfl, q⟩
end
end L2
namespace L2
open PySem PySem.Spec PyProof.Rows
/-! ## x in o, x not in o: o an own instance of the class at C -/
def rInO (C : Addr) (sp : Sp) (E : XK) (neg : Bool) : R2 := fun x y H Q => ∃ a dx fs, y = .ref a ∧ H a = some (.ins C dx fs) ∧ sp [y, x] H (fun z H' => ∃ b, z = .bl b ∧ Q (.bl (if neg then !b else b)) H') E
section
variable {X : Cx} {CX : CXT} {k : Nat} {C f : Addr} {fd : FuncData} {ps : List Str} {sp : Sp} {E : XK}
theorem op_inO (F : FnOk X.prog X.w X.K X.mg X.base CX k f fd ps sp) (hr : Room k X.A) (hb : Binds X.K fd ps []) (hx : Passes CX X E)
    (hs : PySem.W.findIn X.K (.ref C) "__contains__" = some (some (.ref f))) (hfn : PySem.W.isFn X.K (.ref f) = true) : OpR X (compareOp .In) (rInO C sp E false) := by
  intro pins s σ H x y v u Q I rx ry h
  obtain ⟨a, dx, fs, rfl, ha, q⟩ := h
  cases (show u = Value.ref a from ry)
  obtain ⟨mA, O, _⟩ := ins_get I.hok ha
  obtain ⟨od, J, _⟩ := O.look
  obtain ⟨m, hF⟩ := I.fr
  refine PySem.W.in_K hF I.ok.mod.kin J hs hfn ?_
  refine wpAny_mono (run_fn (us := [.ref a, v]) (vs := [.ref a, x]) F hr hb .nil hx I (.cons rfl (.cons rx .nil)) q) (fun w s' z => ?_) fun _ _ x => x
  obtain ⟨z', H', I', rz, b, rfl, qz⟩ := z
  cases rz
  exact wpAny_truthy_bool ⟨.bl b, H', I', rfl, qz⟩
theorem op_notInO (F : FnOk X.prog X.w X.K X.mg X.base CX k f fd ps sp) (hr : Room k X.A) (hb : Binds X.K fd ps []) (hx : Passes CX X E)
    (hs : PySem.W.findIn X.K (.ref C) "__contains__" = some (some (.ref f))) (hfn : PySem.W.isFn X.K (.ref f) = true) : OpR X (compareOp .NotIn) (rInO C sp E true) := by
  intro pins s σ H x y v u Q I rx ry h
  obtain ⟨a, dx, fs, rfl, ha, q⟩ := h
  cases (show u = Value.ref a from ry)
  obtain ⟨mA, O, _⟩ := ins_get I.hok ha
  obtain ⟨od, J, _⟩ := O.look
  obtain ⟨m, hF⟩ := I.fr
  refine PySem.W.notIn_K hF I.ok.mod.kin J hs hfn ?_
  refine wpAny_mono (run_fn (us := [.ref a, v]) (vs := [.ref a, x]) F hr hb .nil hx I (.cons rfl (.cons rx .nil)) q) (fun w s' z => ?_) fun _ _ x => x
  obtain ⟨z', H', I', rz, b, rfl, qz⟩ := z
  cases rz
  exact wpAny_truthy_bool ⟨.bl !b, H', I', rfl, qz⟩
end
end L2
namespace L2
open PySem PySem.Spec PyProof.Rows
/-! ## own operators of an instance with a dict -/
/-- x[i], x an own instance -/
def rIxO (C : Addr) (sp : Sp) (E : XK) : R2 := fun x y H Q => ∃ a dx fs, x = .ref a ∧ H a = some (.ins C dx fs) ∧ sp [x, y] H Q E
section
variable {X : Cx} {CX : CXT} {k : Nat} {C f : Addr} {fd : FuncData} {ps : List Str} {sp : Sp} {E : XK} {a b : Expr} {ta tb : TE} {pos : Pos}
theorem pe_ixOwn (F : FnOk X.prog X.w X.K X.mg X.base CX k f fd ps sp) (hr : Room (k + 1) X.A) (hb : Binds X.K fd ps []) (hx : Passes CX X.nox E) (hs : PySem.W.findIn X.K (.ref C) "__getitem__" = some (some (.ref f))) (hf : PySem.W.fnIn X.K f = true)
    (hfn : PySem.W.isFn X.K (.ref f) = true) (ha : PE X a ta) (hbb : PE X b tb)
    (hsl : ∀ o i, subscripted b true o i = runValue (.builtin "lifetime.subscript" ⟨[o, i], []⟩) := by intro _ _; rfl) :
    PE X (.Subscript a b pos) (tOp (rIxO C sp E) ta tb) := by
  refine ⟨fun pins s σ H Q I h => ?_⟩
  refine Subscript_ (binT ha hbb I h fun v u s2 x y H2 I2 rx ry q => ?_)
  obtain ⟨o, dx, fs, rfl, ea, q⟩ := q
  cases (show v = Value.ref o from rx)
  obtain ⟨mA, O, _⟩ := ins_get I2.hok ea
  obtain ⟨od, J, _⟩ := O.look
  obtain ⟨m, hF⟩ := I2.fr
  refine PySem.W.sub_K hF I2.ok.mod.kin J hs hf hfn ?_ (hsl _ _)
  have hl : ([Value.ref o, u] ++ []).length = ps.length := by
    rw [List.append_nil]
    exact F.len _ _ _ _ q
  refine wpAny_call (codeAny_mono (F.run X.A.in1 X.stack s2 H2 ⟨[.ref o, u], []⟩ ([.ref o, u] ++ []) [.ref o, y] Q E hr.in1 I2.env0.in1 (hb _ [.ref o, u] I2.kIn hl) (.cons rfl (.cons ry .nil)) q) fun r s' hq => ?_)
  cases r with
  | error er => exact False.elim (hx pins σ H2 s2 er s' (I2.wish _) hq)
  | ok fl =>
    cases fl with
    | ret u' => exact I2.after hq
    | next => exact False.elim hq
    | brk => exact False.elim hq
    | cont => exact False.elim hq
end
end L2
namespace PySem
open AutoSeq1 (wpAny_loadPart')
theorem meets_enumerate_new1 {v : Value} {o : Obj} {H : Heap → Prop} (B : Begins v o H) :
    Meets (Builtin.«enumerate.__new__» ⟨[.type "enumerate", v], []⟩) (fun _ R s => H s.heap ∧
      R (.ok (.ret (.ref (s.heap.push o).objs.size))) { s with heap := (s.heap.push o).push { cls := .type "enumerate", data := .fields #[.none, .bool false, .ref s.heap.objs.size, rawInt 0, .none, .none] } }) :=
  .of_wp fun prog w A R s h => by
    obtain ⟨hp, g, d, tk, os⟩ := s; obtain ⟨h1, h⟩ := h
    have hsub := sub_enumerate
    have q1 : ∀ {A' : Around} {E : Value → Shared → Prop} {Q : Value → Shared → Prop}, Q (.ref hp.objs.size) ⟨hp.push o, g, d, tk, os⟩ → wpAny (model prog w) A' (pyIter v) Q E ⟨hp, g, d, tk, os⟩ :=
      fun q => B.iter prog w _ _ ⟨hp, g, d, tk, os⟩ _ h1 q
    wp_walk using q1
    refine wpAny_stack_any fun st => wpAny_pure ?_
    split
    · rename_i c _ _ _ _ _
      cases (c == Value.type "enumerate")
      · wp_walk using q1
        exact ⟨_, rfl, h⟩
      · wp_walk using q1
        exact ⟨_, rfl, h⟩
    · wp_walk using q1
      exact ⟨_, rfl, h⟩
section
variable {prog : Program} {w : World} {A : Around} {E : Value → Shared → Prop} {s : Shared}
theorem enum_begins1 {v : Value} {o : Obj} {H : Heap → Prop} {Q : Value → Shared → Prop} (B : Begins v o H) (h1 : H s.heap)
    (h : ∀ h', IsEnum h' (s.heap.objs.size + 1) s.heap.objs.size 0 .none → h'.get? s.heap.objs.size = some o → h'.objs.size = s.heap.objs.size + 2 →
      (∀ b o, s.heap.get? b = some o → h'.get? b = some o) → Q (.ref (s.heap.objs.size + 1)) { s with heap := h' }) :
    wpAny (model prog w) A (call (.type "enumerate") [v]) Q E s := by
  refine callType_new F.called_enumerate (by decide) (F.typeCall_enumerate_1 _) (F.newCall_enumerate_1 _) (fun obj => F.args_object_init_2 obj _) F.entry_enumerate_new
    (meets_enumerate_new1 B) ⟨h1, ?_⟩
  have hz : (s.heap.push o).objs.size = s.heap.objs.size + 1 := Heap.size_push ..
  show _ ∧ _
  rw [hz]
  have he : IsEnum ((s.heap.push o).push { cls := .type "enumerate", data := .fields #[.none, .bool false, .ref s.heap.objs.size, rawInt 0, .none, .none] }) (s.heap.objs.size + 1) s.heap.objs.size 0 .none := by
    have := Heap.get?_push_size (s.heap.push o) (o := { cls := .type "enumerate", data := .fields #[.none, .bool false, .ref s.heap.objs.size, rawInt 0, .none, .none] }) rfl
    rw [hz] at this; exact this
  refine ⟨⟨_, he, rfl⟩, h _ he (Heap.get?_push_of_some _ (Heap.get?_push_size _ B.free)) (by rw [Heap.size_push, hz]) fun b o x => Heap.get?_push_of_some _ (Heap.get?_push_of_some _ x)⟩
end
end PySem
namespace L2
open PySem PySem.Spec PyProof.Rows
/-- the tuple at a, each item in a new pair -/
def Itet (K : PySem.W.Frag) (a : Addr) : It :=
  ⟨fun i H => ∃ (xs : List V) (x : V), SqT K H a xs ∧ xs[i]? = some x, fun i H v H' => ∃ T x, v = .ref T ∧ H T = none ∧ H' = upd H T (.tup [.int (i : Nat), x]) ∧ ∀ xs, SqT K H a xs → xs[i]? = some x, fun i H => ∃ xs : List V, SqT K H a xs ∧ xs.length = i⟩
theorem tup_ne_iter {h : Heap} {a it : Addr} {items : Array Value} {i : Nat} (p : h.IsTuple a items) (q : h.IsTupleIter it a i) : a ≠ it := fun z => by
  obtain ⟨o, h1, h2, _⟩ := p
  obtain ⟨o', h3, h4, _⟩ := q
  rw [z, h3] at h1
  cases h1
  rw [h4] at h2
  injection h2 with h2
  exact absurd h2 (by decide)
theorem turn_enumT {P : Program} {w : World} {K : PySem.W.Frag} {elts : List Expr} {kk : Nat} {tpos : Pos} (a e it : Addr) :
    Turn P w K (.Tuple elts kk tpos) (Itet K a) [e, it] e (fun i h => (∃ old, IsEnum h e it ((i : Nat) : Int) old) ∧ h.IsTupleIter it a i ∧ e ≠ it) where
  mem := by simp
  obj := fun i h st b hb => by
    obtain ⟨⟨old, he⟩, ⟨o, ho, hc, hd⟩, _⟩ := st
    have e' : b = e ∨ b = it := by simpa using hb
    rcases e' with z | z
    · rw [z]; exact ⟨_, he, fun v q => nomatch q⟩
    · rw [z]; exact ⟨o, ho, fun v q => by rw [hd] at q; cases q⟩
  keep := fun i h h' st k => let ⟨⟨old, he⟩, hi, hne⟩ := st; ⟨⟨old, k e (by simp) _ he⟩, hi.at fun o q => k it (by simp) o q, hne⟩
  item := by
    intro X hP hw hK hc i pins s σ H E I hf st hg
    subst hP hw hK
    obtain ⟨⟨old, he⟩, hit, hne⟩ := st
    obtain ⟨xs, x, hq, hx⟩ := hg
    obtain ⟨its, rv, p, hz⟩ := I.tuple hq
    obtain ⟨u, hu, ru⟩ := rv.get hx
    have p' : s.heap.IsTuple a its.toArray := p
    have hai := tup_ne_iter p' hit
    have hea : e ≠ a := fun z => by
      obtain ⟨o, h1, h2, _⟩ := p'
      rw [← z, he] at h1
      cases h1
      replace h2 : Value.type "enumerate" = Value.type "tuple" := h2
      injection h2 with h2
      exact absurd h2 (by decide)
    have hel : e < s.heap.objs.size := Heap.lt_size he
    have hil : it < s.heap.objs.size := by obtain ⟨_, q, _⟩ := id hit; exact Heap.lt_size q
    have hi : i < its.toArray.size := by
      have := (List.getElem?_eq_some_iff.mp hu).1
      simpa using this
    have D := Draws.tuple (prog := X.prog) (w := X.w) (A := X.A.in1) (show X.A.in1.handled = none from I.ok.hd hc) it a hai its.toArray
    refine wpAny_pyNext_enum_itemD D he ⟨hit, p'⟩ hi hne (by simp [hne, hea]) fun x' h' tk hP ho st' hT hsz hk => ?_
    have ex : x' = u := by
      have : its[i]? = some x' := by simpa using hP
      rw [hu] at this
      exact (Option.some.inj this).symm
    subst ex
    refine ⟨_, rfl, wpAny_letOwnedTupleGo_enum (s := { s with heap := h', toks := tk + 1 }) ho fun h'' he' sb => ?_⟩
    have hT2 : h''.get? s.heap.objs.size = some { cls := .type "tuple", data := .seq #[.int i tk, x'] } := (sb.2 _ (Nat.ne_of_gt hel)).trans hT
    have new : ObjOk X.prog X.w (upd H s.heap.objs.size (.tup [.int (i : Nat), x])) h'' s.heap.objs.size (.tup [.int (i : Nat), x]) :=
      ⟨by show 2 ≤ sizeLine; decide, [.int i tk, x'], .cons ⟨_, rfl⟩ (.cons ru .nil), ⟨_, hT2, rfl, _, rfl⟩⟩
    have I1 : Inv X pins σ (upd H s.heap.objs.size (.tup [.int (i : Nat), x])) { s with heap := h'', toks := tk + 1 } :=
      I.turnedNew (ch := [e, it]) (fun b ob hb q => (sb.2 b (fun z => hb (by simp [z]))).trans (hk b ob (fun z => hb (by simp [z])) (fun z => hb (by simp [z])) q)) hf (Nat.le_refl _) new
    refine ⟨.ref s.heap.objs.size, _, I1, rfl, ⟨_, x, rfl, I.hok.fresh (Nat.le_refl _), rfl, fun ys hy => by rw [I.tuple_inj hy hq]; exact hx⟩, ⟨⟨x', ?_⟩, st'.1.at fun o q => (sb.2 it (Ne.symm hne)).trans q, hne⟩, fun b hb => ?_⟩
    · have e1 : ((i + 1 : Nat) : Int) = (i : Int) + 1 := by omega
      rw [e1]; exact he'
    · have hb' : b < s.heap.objs.size := by
        have e' : b = e ∨ b = it := by simpa using hb
        rcases e' with z | z
        · rw [z]; exact hel
        · rw [z]; exact hil
      rw [upd_ne (Nat.ne_of_lt hb')]
      exact (hf b hb).1
  done := by
    intro X hP hw hK hc i pins s σ H E I hf st hg
    subst hP hw hK
    obtain ⟨⟨old, he⟩, hit, hne⟩ := st
    obtain ⟨xs, hq, hx⟩ := hg
    obtain ⟨its, rv, p, hz⟩ := I.tuple hq
    have p' : s.heap.IsTuple a its.toArray := p
    have hai := tup_ne_iter p' hit
    obtain ⟨f0, f1, f2, f3, f4, f5⟩ := hf it (by simp)
    have hl := rv.length
    have en : i = its.toArray.size := by simp; omega
    subst en
    have D := Draws.tuple (prog := X.prog) (w := X.w) (A := X.A.in1) (show X.A.in1.handled = none from I.ok.hd hc) it a hai its.toArray
    exact wpAny_pyNext_enum_endD D he ⟨hit, p'⟩ fun h' eb => ⟨rfl, I.turned (t' := s.toks) (fun b o hb q => eb b o hb q) f0 f1 f3 f4 f5⟩
  self := fun A i s Q E st h => let ⟨⟨_, he⟩, _⟩ := st; wpAny_pyIter_enum he h
def iEnumT (K : PySem.W.Frag) (ta : TA) : TI := fun σ H R => ta σ H fun vs H1 => ∃ a xs, vs = [.ref a] ∧ SqT K H1 a xs ∧ R (Itet K a) H1
theorem pi_enumT {X : Cx} {e : Expr} {ta : TA} {p pos tpos : Pos} {elts : List Expr} {kk : Nat} (hg : Gl X "enumerate") (hm : X.mg "enumerate" = none) (ha : PA X [e] ta) (hs : starEach [e] X.env = [(false, eval e X.env)] := by rfl) :
    PI X (.Tuple elts kk tpos) (.Call (.Name "enumerate" p) [e] [] pos) (iEnumT X.K ta) := by
  refine ⟨fun pins s σ H R I h => ?_⟩
  refine Call_ (ld_blt I hg hm boot_enumerate (PyProof.Rows.callWith_type1 (thn (ha.run pos pins s σ H _ I h) fun us s1 ⟨vs, H1, I1, r1, q1⟩ => ?_) hs rfl))
  obtain ⟨a, xs, ex, hq, q⟩ := q1
  subst ex
  cases r1 with
  | cons r rr =>
    cases rr
    cases r
    obtain ⟨its, rv, p', hz⟩ := I1.tuple hq
    refine enum_begins1 (begins_tuple a its.toArray) (show s1.heap.IsTuple a its.toArray from p') fun h' he hit hsz hk => wpAny_pyIter_enum he ?_
    have I2 : Inv X pins σ H1 { s1 with heap := h' } := I1.kept (t' := s1.toks) hk
    refine ⟨s1.heap.objs.size + 1, [s1.heap.objs.size + 1, s1.heap.objs.size], _, _, H1, rfl, I2, turn_enumT a (s1.heap.objs.size + 1) s1.heap.objs.size, ⟨⟨.none, he⟩, ⟨_, hit, rfl, rfl⟩, Nat.succ_ne_self _⟩, fun b hb => ?_, q⟩
    have e' : b = s1.heap.objs.size + 1 ∨ b = s1.heap.objs.size := by simpa using hb
    have hle : s1.heap.objs.size ≤ b := by
      rcases e' with z | z
      · rw [z]; exact Nat.le_add_right _ _
      · rw [z]; exact Nat.le_refl _
    exact I1.fpOk hle (I1.hok.fresh hle)
end L2
namespace Toy
open PySem L2
/-! ### data -/
def vI (ns : List Int) : List V := ns.map V.int
def asc (ns : List Int) (n : Nat) : List Int := ((List.range n).filter fun (i : Nat) => decide ((i : Int) ∈ ns)).map fun (i : Nat) => (i : Int)
def isW (n : Nat) (x : Int) : Bool := decide (0 ≤ x) && decide (x < (n : Int))
/-- a list or a tuple of the vI ns -/
def Sq (K : PySem.W.Frag) (H : Hp) (a : Addr) (ns : List Int) : Prop := SqL K H a (vI ns) ∨ SqT K H a (vI ns)
theorem inV_vI (x : Int) : ∀ ns : List Int, inV (.int x) (vI ns) = decide (x ∈ ns)
  | [] => by simp [inV, vI]
  | y :: r => by
    have ih := inV_vI x r
    show ((y == x) || inV (.int x) (vI r)) = decide (x ∈ y :: r)
    rw [ih]
    by_cases h : y = x
    · subst h
      simp
    · have h' : ¬ x = y := fun z => h z.symm
      simp [h, h']
theorem flat_vI : ∀ ns : List Int, (vI ns).all flatV = true
  | [] => rfl
  | _ :: r => flat_vI r
theorem Sq.same {K : PySem.W.Frag} {H H' : Hp} {a : Addr} {ns : List Int} (s : Same H H') (h : Sq K H a ns) : Sq K H' a ns := by
  rcases h with h | h
  · exact .inl (s.seq h)
  · refine .inr ?_
    rcases h with (h | ⟨o, h⟩) | h
    · exact .inl (.inl (s _ _ h))
    · exact .inl (.inr ⟨o, s _ _ h⟩)
    · exact .inr h
theorem Same.upd {H H' : Hp} {p : Addr} {o : HO} (s : Same H H') (n : H' p = none) : Same H (L2.upd H' p o) := fun b u e => by
  rw [upd_ne (ne_of_none (s b u e) n)]
  exact s b u e
theorem asc_succ (ns : List Int) (i : Nat) : asc ns (i + 1) = if (i : Int) ∈ ns then asc ns i ++ [(i : Int)] else asc ns i := by
  unfold asc
  rw [List.range_succ, List.filter_append]
  by_cases h : (i : Int) ∈ ns
  · rw [if_pos h]
    simp [h]
  · rw [if_neg h]
    simp [h]
theorem asc_len (ns : List Int) (n : Nat) : (asc ns n).length ≤ n := by
  unfold asc
  rw [List.length_map]
  exact Nat.le_trans (List.length_filter_le _ _) (by simp)
theorem yesT {σ : St} {H : Hp} {R : Bool → Hp → Prop} (h : R true H) : tYes σ H R := h
theorem vI_at {ns : List Int} {i : Nat} {y : V} (h : (vI ns)[i]? = some y) : ∃ x, ns[i]? = some x ∧ y = V.int x := by
  unfold vI at h
  rw [List.getElem?_map] at h
  cases e : ns[i]? with
  | none =>
    rw [e] at h
    cases h
  | some x =>
    rw [e] at h
    exact ⟨x, rfl, (Option.some.inj h).symm⟩
theorem take_more {α : Type} : ∀ {l : List α} {i : Nat} {x : α}, l[i]? = some x → l.take (i + 1) = l.take i ++ [x]
  | [], i, x, h => by simp at h
  | a :: l, 0, x, h => by
    have e : a = x := Option.some.inj h
    subst e
    rfl
  | a :: l, i + 1, x, h => by
    have ih := take_more (l := l) (i := i) (x := x) h
    show a :: l.take (i + 1) = a :: l.take i ++ [x]
    rw [ih]
    rfl
/-! ### the text by places -/
def top (i : Nat) : Stmt := PySem.Challenge.pw_murmurline_k33_lost_papers.main.body.getD i (.Pass ⟨0, 0, 0, 0⟩)
abbrev sIsSize : Stmt := top 8
abbrev sCheckSize : Stmt := top 9
abbrev sIsWord : Stmt := top 11
abbrev sAllWords : Stmt := top 12
abbrev sCheckWord : Stmt := top 13
abbrev sAsc : Stmt := top 15
/-! ### promises -/
def spIsWord : Sp := fun vs H Q _ => ∃ (x : Int) (n : Nat), vs = [.int x, .int n] ∧ Q (.bl (isW n x)) H
def spAllWords (K : PySem.W.Frag) : Sp := fun vs H Q _ => ∃ (a : Addr) (ns : List Int) (n : Nat), vs = [.ref a, .int n] ∧ SqL K H a (vI ns) ∧ ns.length < sizeLine ∧ ∀ H', Same H H' → Q (.bl (ns.all (isW n))) H'
def spAsc (K : PySem.W.Frag) : Sp := fun vs H Q _ => ∃ (a : Addr) (ns : List Int) (n : Nat), vs = [.ref a, .int n] ∧ Sq K H a ns ∧ n ≤ 6 ∧ ∀ H' p, Same H H' → H p = none → H' p = some (.lst (vI (asc ns n))) → Q (.ref p) H'
structure Bt (mg : Str → Option Value) : Prop where
  len : mg "len" = none
  range : mg "range" = none
  all : mg "all" = none
  list : mg "list" = none
  tuple : mg "tuple" = none
  enumerate : mg "enumerate" = none
  isinstance : mg "isinstance" = none
  int : mg "int" = none
  bool : mg "bool" = none
  str : mg "str" = none
  abs : mg "abs" = none
section
variable {P : Program} {w : World} {K : PySem.W.Frag} {mg : Str → Option Value} {base : Heap}
theorem scIsWord : FnScope ["word", "size"] ["word", "size"] (defScope sIsWord) := ⟨rfl, rfl, rfl, by decide +kernel, rfl, by decide +kernel, by decide +kernel⟩
theorem ok_isWord {f : Addr} {fd : FuncData} (F : Fun K "is_word" "is_word" sIsWord f fd) : FnOk P w K mg base CX0 1 f fd ["word", "size"] spIsWord := by
  refine F.ok scIsWord (fun vs H Q E h => ?_) (fun cdv A outer s H vs Q E hr h => ?_)
  · obtain ⟨x, n, rfl, _⟩ := h
    rfl
  · obtain ⟨x, n, rfl, k⟩ := h
    refine ⟨_, pss_one (ps_ret (pe_chain op_le op_lt pe_int (pv 0) (pv 1))), ?_⟩
    refine ⟨_, rfl, _, _, rfl, rfl, _, rfl, ?_⟩
    by_cases h0 : (0 : Int) ≤ x
    · rw [decide_eq_true h0]
      refine iteT ⟨_, rfl, _, _, rfl, rfl, ?_⟩
      have e : isW n x = decide (x < (n : Int)) := by unfold isW; rw [decide_eq_true h0]; rfl
      rw [e] at k
      exact k
    · rw [decide_eq_false h0]
      refine iteF ?_
      have e : isW n x = false := by unfold isW; rw [decide_eq_false h0]; rfl
      rw [e] at k
      exact k
theorem scAllWords : FnScope ["words", "size", "word"] ["words", "size"] (defScope sAllWords) := ⟨rfl, rfl, rfl, by decide +kernel, rfl, by decide +kernel, by decide +kernel⟩
theorem ok_allWords {f g : Addr} {fd fdg : FuncData} (F : Fun K "all_words" "all_words" sAllWords f fd) (B : Bt mg) (G : Fun K "is_word" "is_word" sIsWord g fdg) (mgG : mg "is_word" = some (.ref g)) (bG : Binds K fdg ["word", "size"] []) :
    FnOk P w K mg base CX0 2 f fd ["words", "size"] (spAllWords K) := by
  refine F.ok scAllWords (fun vs H Q E h => ?_) (fun cdv A outer s H vs Q E hr h => ?_)
  · obtain ⟨a, ns, n, rfl, _⟩ := h
    rfl
  · obtain ⟨a, ns, n, rfl, hS, hlen, k⟩ := h
    refine ⟨_, pss_one (ps_ret (pe_callB (cr_all rfl) (by rfl) B.all (by decide +kernel) (pa_cons (pe_lc (own := [("word", 2)]) (g := gName 2) (tt := tYes) rfl scAllWords.nd (pi_list (pv 0)) (blkOk_by (own := [("word", 2)]) (N := ["words", "size", "word"]) (sc := defScope sAllWords) (by decide +kernel))
      (fun _ _ _ _ _ => pg_name (i := 2) scAllWords.nd rfl (Or.inl rfl)) (fun _ _ _ _ _ => pts_nil)
      (fun _ _ _ _ _ => pe_call (ok_isWord G) hr rfl mgG G.kp bG .nil pass0 (pa_cons (pv 2) (pa_cons (pv 1) pa_nil)))) pa_nil))), ?_⟩
    refine ⟨_, rfl, a, rfl, ⟨_, hS⟩, fun D hD => ?_⟩
    refine lc_list (K := K) (a := a) (xs := vI ns) (fun i H' => Same H H' ∧ H' D = some (.lst ((ns.take i).map fun x => V.bl (isW n x)))) ⟨Same.upd (Same.refl H) hD, upd_same⟩ (fun i H' _ ⟨s, _⟩ => s.seq hS) ?_ ?_
    · rintro i y H' hi ⟨s, hd⟩
      obtain ⟨x, hx, rfl⟩ := vI_at hi
      refine ⟨rfl, ?_⟩
      refine yesT ?_
      refine iteT ?_
      refine ⟨_, rfl, _, rfl, x, n, rfl, ?_⟩
      refine ⟨_, hd, ?_, ?_, ?_⟩
      · rw [List.length_map]
        exact Nat.lt_of_le_of_lt (List.length_take_le' _ _) hlen
      · exact fun b u e => (ne_of_none e hD) |> fun z => by rw [upd_ne z]; exact s b u e
      · rw [upd_same, take_more hx, List.map_append]
        rfl
    · rintro H' ⟨s, hd⟩
      have el : (vI ns).length = ns.length := List.length_map ..
      rw [el, List.take_length] at hd
      refine ⟨D, ns.map (isW n), rfl, SqL.of ?_, ?_⟩
      · rw [hd, List.map_map]
        rfl
      · have := k H' s
        rw [List.all_map]
        exact this
theorem scIsSize : FnScope ["size"] ["size"] (defScope sIsSize) := ⟨rfl, rfl, rfl, by decide +kernel, rfl, by decide +kernel, by decide +kernel⟩
structure CT (K : PySem.W.Frag) (mg : Str → Option Value) (C : Addr) : Prop where
  mgC : mg "Table" = some (.ref C)
  cl : Cls K C
  rd : ClX.CRead K C (.type "type")
  most : ∃ t, PySem.W.findCls K (.ref C) (.type "type") "MOST" = some (.val (.int 6 t))
  nS : NoAttr K C "size"
  nR : NoAttr K C "_rows"
  nP : NoAttr K C "_pairs"
def spIsSize : Sp := fun vs H Q _ => ∃ n : Int, vs = [.int n] ∧ Q (.bl (decide (1 ≤ n) && decide (n ≤ 6))) H
theorem ok_isSize {f C : Addr} {fd : FuncData} (F : Fun K "is_size" "is_size" sIsSize f fd) (T : CT K mg C) : FnOk P w K mg base CX0 1 f fd ["size"] spIsSize := by
  refine F.ok scIsSize (fun vs H Q E h => ?_) (fun cdv A outer s H vs Q E hr h => ?_)
  · obtain ⟨n, rfl, _⟩ := h
    rfl
  · obtain ⟨n, rfl, k⟩ := h
    obtain ⟨t, hm⟩ := T.most
    refine ⟨_, pss_one (ps_ret (pe_chain op_le op_le pe_int (pv 0) (ClX.pe_cval (pe_glob rfl T.mgC (v := .ref C) rfl)))), ?_⟩
    refine ⟨_, rfl, _, _, rfl, rfl, _, rfl, ?_⟩
    by_cases h0 : (1 : Int) ≤ n
    · rw [decide_eq_true h0] at k ⊢
      refine iteT ⟨C, _, .int 6, _, rfl, T.rd, ⟨hm, _, rfl⟩, _, _, rfl, rfl, ?_⟩
      exact k
    · rw [decide_eq_false h0] at k ⊢
      refine iteF ?_
      exact k
theorem scCheckSize : FnScope ["size"] ["size"] (defScope sCheckSize) := ⟨rfl, rfl, rfl, by decide +kernel, rfl, by decide +kernel, by decide +kernel⟩
def spCheckSize : Sp := fun vs H Q _ => ∃ n : Int, vs = [.int n] ∧ 1 ≤ n ∧ n ≤ 6 ∧ Q .non H
theorem ok_checkSize {f g C : Addr} {fd fdg : FuncData} (F : Fun K "check_size" "check_size" sCheckSize f fd) (T : CT K mg C) (G : Fun K "is_size" "is_size" sIsSize g fdg) (mgG : mg "is_size" = some (.ref g)) (bG : Binds K fdg ["size"] []) :
    FnOk P w K mg base CX0 2 f fd ["size"] spCheckSize := by
  refine F.ok scCheckSize (fun vs H Q E h => ?_) (fun cdv A outer s H vs Q E hr h => ?_)
  · obtain ⟨n, rfl, _⟩ := h
    rfl
  · obtain ⟨n, rfl, h1, h2, k⟩ := h
    refine ⟨_, pss_one (ps_if (pt_not (pt_val (pe_call (ok_isSize G T) hr rfl mgG G.kp bG .nil pass0 (pa_cons (pv 0) pa_nil)))) (pss_one ps_never) pss_nil), ?_⟩
    refine ⟨_, rfl, n, rfl, _, rfl, ?_⟩
    rw [decide_eq_true h1, decide_eq_true h2]
    exact iteF k
theorem scCheckWord : FnScope ["word", "size"] ["word", "size"] (defScope sCheckWord) := ⟨rfl, rfl, rfl, by decide +kernel, rfl, by decide +kernel, by decide +kernel⟩
def spCheckWord : Sp := fun vs H Q _ => ∃ (x : Int) (n : Nat), vs = [.int x, .int n] ∧ isW n x = true ∧ Q .non H
theorem ok_checkWord {f g : Addr} {fd fdg : FuncData} (F : Fun K "check_word" "check_word" sCheckWord f fd) (G : Fun K "is_word" "is_word" sIsWord g fdg) (mgG : mg "is_word" = some (.ref g)) (bG : Binds K fdg ["word", "size"] []) :
    FnOk P w K mg base CX0 2 f fd ["word", "size"] spCheckWord := by
  refine F.ok scCheckWord (fun vs H Q E h => ?_) (fun cdv A outer s H vs Q E hr h => ?_)
  · obtain ⟨x, n, rfl, _⟩ := h
    rfl
  · obtain ⟨x, n, rfl, h1, k⟩ := h
    refine ⟨_, pss_one (ps_if (pt_not (pt_val (pe_call (ok_isWord G) hr rfl mgG G.kp bG .nil pass0 (pa_cons (pv 0) (pa_cons (pv 1) pa_nil))))) (pss_one ps_never) pss_nil), ?_⟩
    refine ⟨_, rfl, _, rfl, x, n, rfl, _, rfl, ?_⟩
    rw [h1]
    exact iteF k
theorem scAsc : FnScope ["words", "size", "word"] ["words", "size"] (defScope sAsc) := ⟨rfl, rfl, rfl, by decide +kernel, rfl, by decide +kernel, by decide +kernel⟩
theorem ok_asc {f : Addr} {fd : FuncData} (F : Fun K "ascending" "ascending" sAsc f fd) (B : Bt mg) : FnOk P w K mg base CX0 1 f fd ["words", "size"] (spAsc K) := by
  refine F.ok scAsc (fun vs H Q E h => ?_) (fun cdv A outer s H vs Q E hr h => ?_)
  · obtain ⟨a, ns, n, rfl, _⟩ := h
    rfl
  · obtain ⟨a, ns, n, rfl, hS, hn, k⟩ := h
    refine ⟨_, pss_one (ps_ret (pe_lc (own := [("word", 2)]) (g := gName 2) (tt := tTest (tOp (rIn K false) (tVar 2) (tVar 0))) rfl scAsc.nd (pi_range1 (by rfl) B.range (pa_cons (pv 1) pa_nil)) (blkOk_by (own := [("word", 2)]) (N := ["words", "size", "word"]) (sc := defScope sAsc) (by decide +kernel))
      (fun _ _ _ _ _ => pg_name (i := 2) scAsc.nd rfl (Or.inl rfl)) (fun _ _ _ _ _ => pts_one (pt_cmpR op_in_seq (pv 2) (pv 0) (by rfl)))
      (fun _ _ _ _ _ => pv 2))), ?_⟩
    refine ⟨_, rfl, n, rfl, by omega, by omega, fun D hD => ?_⟩
    refine lc_range (lo := 0) (n := n) (fun i H' => Same H H' ∧ H' D = some (.lst (vI (asc ns i)))) ⟨Same.upd (Same.refl H) hD, upd_same⟩ ?_ ?_
    · rintro i H' hi ⟨s, hd⟩
      refine ⟨rfl, ?_⟩
      refine ⟨_, rfl, _, rfl, a, _, rfl, hS.same s, rfl, flat_vI ns, _, rfl, ?_⟩
      have e0 : (0 : Int) + (i : Int) = (i : Int) := by omega
      rw [e0]
      show if (if false = true then !inV (.int (i : Int)) (vI ns) else inV (.int (i : Int)) (vI ns)) = true then _ else _
      rw [if_neg Bool.false_ne_true, inV_vI, asc_succ]
      by_cases hm : (i : Int) ∈ ns
      · rw [decide_eq_true hm, if_pos hm]
        refine iteT ?_
        refine ⟨_, rfl, _, hd, ?_, ?_, ?_⟩
        · show (vI (asc ns i)).length < sizeLine
          unfold vI
          rw [List.length_map]
          exact Nat.lt_of_le_of_lt (asc_len ns i) (Nat.lt_of_lt_of_le (Nat.lt_of_lt_of_le hi hn) (by decide))
        · exact fun b u e => (ne_of_none e hD) |> fun z => by rw [upd_ne z]; exact s b u e
        · rw [upd_same]
          unfold vI
          rw [List.map_append]
          rfl
      · rw [decide_eq_false hm, if_neg hm]
        exact iteF ⟨s, hd⟩
    · rintro H' ⟨s, hd⟩
      exact k H' D s hD hd
end
end Toy
namespace L2
open PySem PySem.Spec PyProof.Rows
section
variable {J : It} {n : Nat} {G : Hp → Prop} {Y : Nat → Hp → V → Hp → Prop}
/-- the outer loop of [e for a in A for b in B] -/
theorem lc2_out (w : Walk J n G Y) {F : (Hp → Prop) → V → Hp → Prop} {H1 : Hp} {D : Addr} {Qd : Hp → Prop} (Pv : Nat → Hp → Prop) (h0 : Pv 0 (upd H1 D (.lst []))) (hG : ∀ i H, i ≤ n → Pv i H → G H)
    (hs : ∀ i x H H', i < n → Pv i H → Y i H x H' → F (Pv (i + 1)) x H') (hd : ∀ H, Pv n H → Qd H) :
    ∃ W : Nat → Nat → Hp → Prop, (∃ m, W 0 m (upd H1 D (.lst []))) ∧ ∀ i m H, W i m H →
      (J.stop i H ∧ Qd H) ∨ (J.go i H ∧ ∃ Nx : Hp → Prop, (∀ H', Nx H' → ∃ m', m' < m ∧ W (i + 1) m' H') ∧ ∀ x H', J.yld i H x H' → F Nx x H') := by
  refine ⟨fun i m H => m = n - i ∧ i ≤ n ∧ Pv i H, ⟨n, by simp, Nat.zero_le _, h0⟩, ?_⟩
  rintro i m H ⟨rfl, hi, p⟩
  have q := hG i H hi p
  by_cases hlt : i < n
  · exact .inr ⟨w.goes i H hlt q, Pv (i + 1), fun H' p' => ⟨n - (i + 1), by omega, rfl, hlt, p'⟩, fun x H' y => hs i x H H' hlt p (w.yields i H x H' hlt q y)⟩
  · have e : i = n := by omega
    subst e
    exact .inl ⟨w.stops H q, hd H p⟩
/-- the inner one -/
theorem lc2_in (w : Walk J n G Y) {F : (Hp → Prop) → V → Hp → Prop} {H1 : Hp} {Qd : Hp → Prop} (Pv : Nat → Hp → Prop) (h0 : Pv 0 H1) (hG : ∀ i H, i ≤ n → Pv i H → G H)
    (hs : ∀ i x H H', i < n → Pv i H → Y i H x H' → F (Pv (i + 1)) x H') (hd : ∀ H, Pv n H → Qd H) :
    ∃ W : Nat → Nat → Hp → Prop, (∃ m, W 0 m H1) ∧ ∀ i m H, W i m H →
      (J.stop i H ∧ Qd H) ∨ (J.go i H ∧ ∃ Nx : Hp → Prop, (∀ H', Nx H' → ∃ m', m' < m ∧ W (i + 1) m' H') ∧ ∀ x H', J.yld i H x H' → F Nx x H') := by
  refine ⟨fun i m H => m = n - i ∧ i ≤ n ∧ Pv i H, ⟨n, by simp, Nat.zero_le _, h0⟩, ?_⟩
  rintro i m H ⟨rfl, hi, p⟩
  have q := hG i H hi p
  by_cases hlt : i < n
  · exact .inr ⟨w.goes i H hlt q, Pv (i + 1), fun H' p' => ⟨n - (i + 1), by omega, rfl, hlt, p'⟩, fun x H' y => hs i x H H' hlt p (w.yields i H x H' hlt q y)⟩
  · have e : i = n := by omega
    subst e
    exact .inl ⟨w.stops H q, hd H p⟩
theorem walk_enumT {K : PySem.W.Frag} {a : Addr} {xs : List V} : Walk (Itet K a) xs.length (fun H => SqT K H a xs) (YPair (fun i => some (.int (i : Nat))) (fun i => xs[i]?)) := by
  refine ⟨fun i _ hi q => ⟨xs, xs[i], q, by simp [hi]⟩, fun _ q => ⟨xs, q, rfl⟩, fun i H v H' _ q y => ?_⟩
  obtain ⟨T, x, h1, h2, h3, h4⟩ := y
  exact ⟨T, .int (i : Nat), x, h1, h2, h3, rfl, h4 xs q⟩
end
theorem Paired.snoc {α β : Type} {F : α → β → Prop} {x : α} {y : β} (f : F x y) : ∀ {xs : List α} {ys : List β}, Paired F xs ys → Paired F (xs ++ [x]) (ys ++ [y])
  | _, _, .nil => .cons f .nil
  | _, _, .cons r t => .cons r (Paired.snoc f t)
theorem Paired.at {α β : Type} {F : α → β → Prop} : ∀ {xs : List α} {ys : List β} {i : Nat} {x : α}, Paired F xs ys → xs[i]? = some x → ∃ y, ys[i]? = some y ∧ F x y
  | _, _, _, _, .nil, e => by simp at e
  | _, _, 0, _, .cons r _, e => by simp at e; subst e; exact ⟨_, rfl, r⟩
  | _, _, i + 1, x, .cons _ t, e => by
    obtain ⟨u, h1, h2⟩ := Paired.at (i := i) (x := x) t (by simpa using e)
    exact ⟨u, by simpa using h1, h2⟩
theorem Paired.at2 {α β : Type} {F : α → β → Prop} : ∀ {xs : List α} {ys : List β} {i : Nat} {y : β}, Paired F xs ys → ys[i]? = some y → ∃ x, xs[i]? = some x ∧ F x y
  | _, _, _, _, .nil, e => by simp at e
  | _, _, 0, _, .cons r _, e => by simp at e; subst e; exact ⟨_, rfl, r⟩
  | _, _, i + 1, x, .cons _ t, e => by
    obtain ⟨u, h1, h2⟩ := Paired.at2 (i := i) (y := x) t (by simpa using e)
    exact ⟨u, by simpa using h1, h2⟩
theorem PairedIn.map {α β : Type} {F G : α → β → Prop} : ∀ {l₁ : List α} {l₂ : List β}, Paired F l₁ l₂ → (∀ a b, a ∈ l₁ → F a b → G a b) → Paired G l₁ l₂
  | _, _, .nil, _ => .nil
  | _, _, .cons r t, f => .cons (f _ _ List.mem_cons_self r) (PairedIn.map t fun a b h => f a b (List.mem_cons_of_mem _ h))
end L2
namespace Toy
open PySem L2
def prs (k : Nat) : List (List Int) → List (Int × Int)
  | [] => []
  | r :: R => r.map (fun x => ((k : Int), x)) ++ prs (k + 1) R
theorem prs_snoc : ∀ (k : Nat) (A : List (List Int)) (r : List Int), prs k (A ++ [r]) = prs k A ++ r.map fun x => (((k + A.length : Nat) : Int), x)
  | k, [], r => by simp [prs]
  | k, a :: A, r => by
    show a.map _ ++ prs (k + 1) (A ++ [r]) = (a.map _ ++ prs (k + 1) A) ++ _
    rw [prs_snoc (k + 1) A r, List.append_assoc]
    have e : k + 1 + A.length = k + (a :: A).length := by simp; omega
    rw [e]
theorem prs_len : ∀ (k : Nat) (A : List (List Int)), (∀ r ∈ A, r.length ≤ 6) → (prs k A).length ≤ 6 * A.length
  | k, [], _ => by simp [prs]
  | k, a :: A, h => by
    have ih := prs_len (k + 1) A fun r hr => h r (List.mem_cons_of_mem _ hr)
    have := h a List.mem_cons_self
    simp [prs]
    omega
def vP (p : Int × Int) : List V := [.int p.1, .int p.2]
end Toy
namespace Toy
open PySem L2
abbrev RowsT (H : Hp) (ts : List V) (R : List (List Int)) : Prop := Paired (fun v r => ∃ t, v = V.ref t ∧ H t = some (.tup (vI r))) ts R
abbrev RowsL (H : Hp) (ls : List V) (R : List (List Int)) : Prop := Paired (fun v r => ∃ t, v = V.ref t ∧ H t = some (.lst (vI r))) ls R
abbrev PairsT (H : Hp) (qs : List V) (P : List (Int × Int)) : Prop := Paired (fun v p => ∃ t, v = V.ref t ∧ H t = some (.tup (vP p))) qs P
theorem RowsT.same {H H' : Hp} {ts R} (s : Same H H') (h : RowsT H ts R) : RowsT H' ts R := L2.Paired.mapP h fun _ _ ⟨t, e, q⟩ => ⟨t, e, s _ _ q⟩
theorem RowsL.same {H H' : Hp} {ts R} (s : Same H H') (h : RowsL H ts R) : RowsL H' ts R := L2.Paired.mapP h fun _ _ ⟨t, e, q⟩ => ⟨t, e, s _ _ q⟩
theorem PairsT.same {H H' : Hp} {ts R} (s : Same H H') (h : PairsT H ts R) : PairsT H' ts R := L2.Paired.mapP h fun _ _ ⟨t, e, q⟩ => ⟨t, e, s _ _ q⟩
/-- the attributes of a table -/
def tf (n : Nat) (tr tp : Addr) : List (Str × V) := [("size", V.int n), ("_rows", V.ref tr), ("_pairs", V.ref tp)]
theorem sr_ : ¬ (("size" : Str) = "_rows") := by decide +kernel
theorem sp_ : ¬ (("size" : Str) = "_pairs") := by decide +kernel
theorem rp_ : ¬ (("_rows" : Str) = "_pairs") := by decide +kernel
theorem rs_ : ¬ (("_rows" : Str) = "size") := by decide +kernel
theorem ps_' : ¬ (("_pairs" : Str) = "size") := by decide +kernel
theorem pr_ : ¬ (("_pairs" : Str) = "_rows") := by decide +kernel
theorem tf_1 (n : Nat) : putF "size" (.int n) [] = ([("size", V.int n)] : List (Str × V)) := rfl
theorem tf_2 (n : Nat) (tr : Addr) : putF "_rows" (.ref tr) ([("size", V.int n)] : List (Str × V)) = ([("size", V.int n), ("_rows", V.ref tr)] : List (Str × V)) := by
  show (if ("size" : Str) = "_rows" then [(("size" : Str), V.ref tr)] else (("size" : Str), V.int n) :: putF "_rows" (V.ref tr) []) = ([("size", V.int n), ("_rows", V.ref tr)] : List (Str × V))
  rw [if_neg sr_]
  rfl
theorem tf_3 (n : Nat) (tr tp : Addr) : putF "_pairs" (.ref tp) ([("size", V.int n), ("_rows", V.ref tr)] : List (Str × V)) = tf n tr tp := by
  show (if ("size" : Str) = "_pairs" then _ else (("size" : Str), V.int n) :: (if ("_rows" : Str) = "_pairs" then _ else (("_rows" : Str), V.ref tr) :: putF "_pairs" (V.ref tp) [])) = tf n tr tp
  rw [if_neg sp_, if_neg rp_]
  rfl
theorem tf_size (n : Nat) (tr tp : Addr) : (tf n tr tp).lookup ("size" : Str) = some (.int n) := by simp [tf, List.lookup]
theorem tf_rows (n : Nat) (tr tp : Addr) : (tf n tr tp).lookup ("_rows" : Str) = some (.ref tr) := by
  have h : (("_rows" : Str) == "size") = false := by simpa using rs_
  simp [tf, List.lookup, h]
theorem tf_pairs (n : Nat) (tr tp : Addr) : (tf n tr tp).lookup ("_pairs" : Str) = some (.ref tp) := by
  have h : (("_pairs" : Str) == "size") = false := by simpa using ps_'
  have h2 : (("_pairs" : Str) == "_rows") = false := by simpa using pr_
  simp [tf, List.lookup, h, h2]
theorem RowsT.updL {H : Hp} {D : Addr} {xs ys : List V} {ts R} (h : RowsT H ts R) (hd : H D = some (.lst xs)) : RowsT (upd H D (.lst ys)) ts R :=
  L2.Paired.mapP h fun _ _ ⟨t, e, q⟩ => ⟨t, e, by rw [upd_ne (ne_of q hd (fun z => nomatch z))]; exact q⟩
theorem PairsT.updL {H : Hp} {D : Addr} {xs ys : List V} {ts R} (h : PairsT H ts R) (hd : H D = some (.lst xs)) : PairsT (upd H D (.lst ys)) ts R :=
  L2.Paired.mapP h fun _ _ ⟨t, e, q⟩ => ⟨t, e, by rw [upd_ne (ne_of q hd (fun z => nomatch z))]; exact q⟩
theorem Same.updN {H H' : Hp} {D : Addr} {o : HO} (s : Same H H') (hD : H D = none) : Same H (L2.upd H' D o) := fun b u e => by
  rw [upd_ne (ne_of_none e hD)]
  exact s b u e
theorem Same.new {H : Hp} {D : Addr} {o : HO} (hD : H D = none) : Same H (L2.upd H D o) := Same.updN (Same.refl H) hD
theorem vI_len (ns : List Int) : (vI ns).length = ns.length := List.length_map ..
/-- a table stands at p, its rows R -/
def Tab (C : Addr) (H : Hp) (p : Addr) (R : List (List Int)) : Prop :=
  ∃ (dx tr tp : Addr) (ts qs : List V), H p = some (.ins C dx (tf R.length tr tp)) ∧ H dx = some (.own p) ∧ H tr = some (.tup ts) ∧ RowsT H ts R ∧ H tp = some (.tup qs) ∧ PairsT H qs (prs 0 R) ∧
    1 ≤ R.length ∧ R.length ≤ 6 ∧ ∀ r ∈ R, r.length ≤ 6
theorem Tab.same {C : Addr} {H H' : Hp} {p : Addr} {R} (s : Same H H') (h : Tab C H p R) : Tab C H' p R := by
  obtain ⟨dx, tr, tp, ts, qs, h1, h2, h3, h4, h5, h6, h7⟩ := h
  exact ⟨dx, tr, tp, ts, qs, s _ _ h1, s _ _ h2, s _ _ h3, RowsT.same s h4, s _ _ h5, PairsT.same s h6, h7⟩
abbrev sTable : Stmt := top 16
abbrev sInit : Stmt := inClass sTable 1
/-- the given rows: each a list of words -/
def spInit (K : PySem.W.Frag) (C : Addr) : Sp := fun vs H Q _ => ∃ (p dx l : Addr) (ls : List V) (G : List (List Int)), vs = [.ref p, .ref l] ∧ H p = some (.ins C dx []) ∧ H dx = some (.own p) ∧ H l = some (.lst ls) ∧ RowsL H ls G ∧
  1 ≤ G.length ∧ G.length ≤ 6 ∧ (∀ g ∈ G, g.length < sizeLine ∧ g.all (isW G.length) = true) ∧
  ∀ H', (∀ b o, b ≠ p → H b = some o → H' b = some o) → Tab C H' p (G.map fun g => asc g G.length) → Q .non H'
section
variable {P : Program} {w : World} {K : PySem.W.Frag} {mg : Str → Option Value} {base : Heap}
structure Gs (K : PySem.W.Frag) (mg : Str → Option Value) (C : Addr) : Prop where
  B : Bt mg
  T : CT K mg C
  isW_ : ∃ f fd, Fun K "is_word" "is_word" sIsWord f fd ∧ mg "is_word" = some (.ref f) ∧ Binds K fd ["word", "size"] []
  allW : ∃ f fd, Fun K "all_words" "all_words" sAllWords f fd ∧ mg "all_words" = some (.ref f) ∧ Binds K fd ["words", "size"] []
  isS : ∃ f fd, Fun K "is_size" "is_size" sIsSize f fd ∧ mg "is_size" = some (.ref f) ∧ Binds K fd ["size"] []
  chS : ∃ f fd, Fun K "check_size" "check_size" sCheckSize f fd ∧ mg "check_size" = some (.ref f) ∧ Binds K fd ["size"] []
  chW : ∃ f fd, Fun K "check_word" "check_word" sCheckWord f fd ∧ mg "check_word" = some (.ref f) ∧ Binds K fd ["word", "size"] []
  asc : ∃ f fd, Fun K "ascending" "ascending" sAsc f fd ∧ mg "ascending" = some (.ref f) ∧ Binds K fd ["words", "size"] []
theorem scInit : FnScope ["self", "rows", "size", "index", "row", "told", "out"] ["self", "rows"] (defScope sInit) := ⟨rfl, rfl, rfl, by decide +kernel, rfl, by decide +kernel, by decide +kernel⟩
theorem ok_init {f C : Addr} {fd : FuncData} (F : Fun K "__init__" "Table.__init__" sInit f fd) (S : Gs K mg C) : FnOk P w K mg base CX0 3 f fd ["self", "rows"] (spInit K C) := by
  obtain ⟨fW, fdW, FW, mW, bW⟩ := S.isW_
  obtain ⟨fA, fdA, FA, mA, bA⟩ := S.allW
  obtain ⟨fI, fdI, FI, mI, bI⟩ := S.isS
  obtain ⟨fC, fdC, FC, mC, bC⟩ := S.chS
  obtain ⟨fS, fdS, FS, mS, bS⟩ := S.asc
  refine F.ok scInit (fun vs H Q E h => ?_) (fun cdv A outer s H vs Q E hr h => ?_)
  · obtain ⟨p, dx, l, ls, G, rfl, _⟩ := h
    rfl
  · obtain ⟨p, dx, l, ls, G, rfl, hp, hdx, hl, hR, g1, g6, gG, k⟩ := h
    have hr1 : Room 1 _ := hr.mono (by decide)
    refine ⟨_, pss_cons (ps_set (i := 2) scInit.nd rfl (Or.inr rfl) (pe_callB call_len_seq (by rfl) S.B.len PySem.boot_len (pa_cons (pv 1) pa_nil)))
      (pss_cons (ps_expr (pe_call (ok_checkSize FC S.T FI mI bI) hr rfl mC FC.kp bC .nil pass0 (pa_cons (pv 2) pa_nil)))
      (pss_cons (ps_for PassesOwn.never rfl (pi_enum (by rfl) S.B.enumerate (pa_cons (pv 1) pa_nil)) (pg_tup (by rfl) (pgs_cons (pg_name (i := 3) scInit.nd rfl (Or.inl rfl)) (pgs_cons (pg_name (i := 4) scInit.nd rfl (Or.inl rfl)) pgs_nil)))
        (pss_one (ps_if (pt_not (pt_val (pe_call (ok_allWords FA S.B FW mW bW) hr rfl mA FA.kp bA .nil pass0 (pa_cons (pv 4) (pa_cons (pv 2) pa_nil))))) (pss_one ps_never) pss_nil)))
      (pss_cons (ps_fld (pv 0) (pv 2) rfl)
      (pss_cons (ps_fld (pv 0) (pe_callTy call_tuple_of (by rfl) S.B.tuple (by decide +kernel) (pa_cons
        (pe_lc (own := [("row", 4)]) (g := gName 4) (tt := tYes) rfl scInit.nd (pi_list (pv 1)) (blkOk_by (own := [("row", 4)]) (N := ["self", "rows", "size", "index", "row", "told", "out"]) (sc := defScope sInit) (by decide +kernel))
          (fun _ _ _ _ _ => pg_name (i := 4) scInit.nd rfl (Or.inl rfl)) (fun _ _ _ _ _ => pts_nil)
          (te := tCB (fun xs H Q => ∃ p ys, xs = [.ref p] ∧ ((SqL K H p ys ∧ ∀ l, H l = none → Q (.ref l) (upd H l (.tup ys))) ∨ (SqT K H p ys ∧ Q (.ref p) H))) (tCons (tCall (spAsc K) [] E0 (tCons (tVar 4) (tCons (tVar 2) tNil))) tNil))
          (fun _ _ _ _ _ => pe_callTy call_tuple_of (by rfl) S.B.tuple (by decide +kernel) (pa_cons (pe_call (ok_asc FS S.B) hr1 rfl mS FS.kp bS .nil pass0 (pa_cons (pv 4) (pa_cons (pv 2) pa_nil))) pa_nil))) pa_nil)) rfl)
      (pss_one (ps_fld (pv 0) (pe_callTy call_tuple_of (by rfl) S.B.tuple (by decide +kernel) (pa_cons
        (pe_lc2 (own := [("told", 5), ("row", 4), ("out", 6)]) (vs1 := [6]) (tt := tYes) (tt1 := tYes) (g := gTup K 2 (gCons (gName 5) (gCons (gName 4) gNil))) (g1 := gName 6) (wi1 := iTup K (tVar 4)) rfl scInit.nd (pi_enumT (by rfl) S.B.enumerate (pa_cons (pe_fld (pv 0) rfl) pa_nil))
          (blkOk_by (own := [("told", 5), ("row", 4), ("out", 6)]) (N := ["self", "rows", "size", "index", "row", "told", "out"]) (sc := defScope sInit) (by decide +kernel)) (by decide)
          (fun _ _ _ _ _ => pg_tup (by rfl) (pgs_cons (pg_name (i := 5) scInit.nd rfl (Or.inl rfl)) (pgs_cons (pg_name (i := 4) scInit.nd rfl (Or.inl rfl)) pgs_nil))) (fun _ _ _ _ _ => pts_nil)
          (fun _ _ _ _ _ => pi_tup (pv 4)) (fun _ _ _ _ _ => pg_name (i := 6) scInit.nd rfl (Or.inl rfl)) (fun _ _ _ _ _ => pts_nil)
          (fun _ _ _ _ _ => pe_tup (pa_cons (pv 5) (pa_cons (pv 6) pa_nil)))) pa_nil)) rfl)))))), ?_⟩
    have el : ls.length = G.length := Paired.length hR
    rw [← el] at g1 g6 gG k
    refine ⟨_, rfl, l, ls, rfl, .inl (SqL.of hl), ?_⟩
    refine ⟨_, rfl, (ls.length : Int), rfl, by omega, by omega, ?_⟩
    refine ⟨_, rfl, l, ls, rfl, SqL.of hl, ?_⟩
    refine for_it (walk_enum (K := K) (a := l) (xs := ls)) (fun i σ H' => ∃ v3 v4, σ = [some (.ref p), some (.ref l), some (.int (ls.length : Int)), v3, v4, none, none] ∧ Same H H') ⟨none, none, rfl, Same.refl H⟩ (fun i σ H' _ ⟨_, _, _, s⟩ => SqL.of (s _ _ hl)) ?_ ?_
    · rintro i x σ H1 H2 hi ⟨v3, v4, rfl, s1⟩ ⟨T, a, b, rfl, hT, rfl, ha, hb⟩
      cases (Option.some.inj ha)
      obtain ⟨g, hg, t, rfl, ht⟩ := L2.Paired.at (RowsL.same s1 hR) hb
      have s2 : Same H (upd H1 T (.tup [.int (i : Nat), .ref t])) := Same.upd s1 hT
      refine ⟨T, _, rfl, SqT.of upd_same, rfl, _, _, rfl, _, _, rfl, rfl, ?_⟩
      have tT : t ≠ T := ne_of_none ht hT
      obtain ⟨gl, ga⟩ := gG g (List.mem_of_getElem? hg)
      refine ⟨_, rfl, _, rfl, t, g, ls.length, rfl, SqL.of (by rw [upd_ne tT]; exact ht), gl, fun H3 s3 => ⟨_, rfl, ?_⟩⟩
      rw [ga]
      exact iteF ⟨_, _, rfl, s2.trans s3⟩
    · rintro σ H1 ⟨v3, v4, rfl, s1⟩
      have hp1 := s1 _ _ hp
      have hdx1 := s1 _ _ hdx
      -- self.size = size
      refine ⟨_, rfl, _, rfl, p, C, dx, [], rfl, hp1, S.T.cl, S.T.nS, (by show 0 < 1000; decide), ?_⟩
      rw [tf_1]
      generalize hHa : upd H1 p (.ins C dx [(("size" : Str), V.int (ls.length : Int))]) = Ha
      have kA : ∀ b o, b ≠ p → H b = some o → Ha b = some o := fun b o ne e => by rw [← hHa, upd_ne ne]; exact s1 _ _ e
      have pA : Ha p = some (.ins C dx [(("size" : Str), V.int (ls.length : Int))]) := by rw [← hHa, upd_same]
      have npl : l ≠ p := ne_of hl hp (fun z => nomatch z)
      have npd : dx ≠ p := ne_of hdx hp (fun z => nomatch z)
      have lA := kA _ _ npl hl
      have RA : RowsL Ha ls G := L2.Paired.mapP hR fun _ _ ⟨t, e, q⟩ => ⟨t, e, kA _ _ (ne_of q hp (fun z => nomatch z)) q⟩
      -- self._rows = tuple([tuple(ascending(row, size)) for row in rows])
      refine ⟨_, rfl, l, rfl, ⟨_, SqL.of lA⟩, fun D hD => ?_⟩
      refine lc_list (K := K) (a := l) (xs := ls) (fun i H' => Same Ha H' ∧ ∃ ts, H' D = some (.lst ts) ∧ RowsT H' ts ((G.take i).map fun g => Toy.asc g ls.length)) ⟨Same.new hD, [], upd_same, .nil⟩ (fun i H' _ ⟨s, _⟩ => SqL.of (s _ _ lA)) ?_ ?_
      · rintro i y H2 hi ⟨s2, ts, hd2, R2⟩
        obtain ⟨g, hg, t, rfl, ht⟩ := L2.Paired.at (RowsL.same s2 RA) hi
        refine ⟨rfl, yesT (iteT ?_)⟩
        refine ⟨_, rfl, _, rfl, t, g, ls.length, rfl, .inl (SqL.of ht), g6, fun H3 q s3 hq0 hq => ?_⟩
        refine ⟨q, _, rfl, .inl ⟨SqL.of hq, fun u hu => ?_⟩⟩
        have hd3 := s3 _ _ hd2
        have nDu : D ≠ u := ne_of_none hd3 hu
        have hd4 : upd H3 u (.tup (vI (Toy.asc g ls.length))) D = some (.lst ts) := by rw [upd_ne nDu]; exact hd3
        refine ⟨ts, hd4, ?_, ?_, ts ++ [.ref u], upd_same, ?_⟩
        · rw [Paired.length R2, List.length_map]
          refine Nat.lt_of_le_of_lt (List.length_take_le' _ _) (Nat.lt_of_le_of_lt (?_ : _ ≤ 6) (by decide))
          omega
        · exact Same.updN (Same.upd (s2.trans s3) hu) hD
        · rw [take_more hg, List.map_append]
          refine L2.Paired.snoc ⟨u, rfl, by rw [upd_ne nDu.symm, upd_same]⟩ ?_
          exact RowsT.updL (RowsT.same ((s3).trans (Same.new hu)) R2) hd4
      · rintro H2 ⟨s2, ts, hd2, R2⟩
        rw [el, List.take_length] at R2
        refine ⟨D, ts, rfl, .inl ⟨SqL.of hd2, fun tr htr => ?_⟩⟩
        have sC : Same Ha (upd H2 tr (.tup ts)) := Same.upd s2 htr
        have R3 : RowsT (upd H2 tr (.tup ts)) ts (G.map fun g => Toy.asc g G.length) := RowsT.same (Same.new htr) R2
        have t3 : (upd H2 tr (.tup ts)) tr = some (.tup ts) := upd_same
        generalize (upd H2 tr (.tup ts)) = Hc at sC R3 t3
        refine ⟨_, rfl, p, C, dx, _, rfl, sC _ _ pA, S.T.cl, S.T.nR, (by show 1 < 1000; decide), ?_⟩
        rw [tf_2]
        rw [el] at k g6 g1
        rw [el] at *
        have kC : ∀ b o, b ≠ p → H b = some o → Hc b = some o := fun b o ne e => sC _ _ (kA b o ne e)
        have pC : ∀ b o, b ≠ p → Hc b = some o → upd Hc p (.ins C dx [(("size" : Str), V.int (G.length : Int)), (("_rows" : Str), V.ref tr)]) b = some o := fun b o ne e => by rw [upd_ne ne]; exact e
        have p0 := sC _ _ pA
        have R4 : RowsT (upd Hc p (.ins C dx [(("size" : Str), V.int (G.length : Int)), (("_rows" : Str), V.ref tr)])) ts (G.map fun g => Toy.asc g G.length) :=
          L2.Paired.mapP R3 fun _ _ ⟨t, e, q⟩ => ⟨t, e, pC _ _ (ne_of q p0 (fun z => nomatch z)) q⟩
        have t4 := pC _ _ (ne_of t3 p0 (fun z => nomatch z)) t3
        have kD : ∀ b o, b ≠ p → H b = some o → upd Hc p (.ins C dx [(("size" : Str), V.int (G.length : Int)), (("_rows" : Str), V.ref tr)]) b = some o := fun b o ne e => pC _ _ ne (kC _ _ ne e)
        have pD : upd Hc p (.ins C dx [(("size" : Str), V.int (G.length : Int)), (("_rows" : Str), V.ref tr)]) p = some (.ins C dx [(("size" : Str), V.int (G.length : Int)), (("_rows" : Str), V.ref tr)]) := upd_same
        generalize upd Hc p (.ins C dx [(("size" : Str), V.int (G.length : Int)), (("_rows" : Str), V.ref tr)]) = Hd at R4 t4 kD pD
        have lkR : List.lookup ("_rows" : Str) ([(("size" : Str), V.int (G.length : Int)), (("_rows" : Str), V.ref tr)] : List (Str × V)) = some (.ref tr) := by
          have h : (("_rows" : Str) == "size") = false := by simpa using rs_
          simp [List.lookup, h]
        -- self._pairs = ..
        have lR : (G.map fun g => Toy.asc g G.length).length = G.length := List.length_map ..
        have r6 : ∀ r ∈ (G.map fun g => Toy.asc g G.length), r.length ≤ 6 := fun r hr => by
          obtain ⟨g, _, rfl⟩ := List.mem_map.mp hr
          exact Nat.le_trans (asc_len _ _) g6
        generalize (G.map fun g => Toy.asc g G.length) = R at k R4 lR r6
        have lts : ts.length = R.length := Paired.length R4
        refine ⟨_, rfl, p, C, dx, _, _, rfl, pD, S.T.cl, S.T.nR, lkR, tr, ts, rfl, SqT.of t4, fun D2 hD2 => ?_⟩
        have nP6 : ∀ i, (prs 0 (R.take i)).length ≤ 36 := fun i => by
          have h1 := prs_len 0 (R.take i) fun r hr => r6 r (List.mem_of_mem_take hr)
          have h2 : (R.take i).length ≤ R.length := List.length_take_le' _ _
          omega
        refine lc2_out (walk_enumT (K := K) (a := tr) (xs := ts)) (fun i H' => Same Hd H' ∧ ∃ qs, H' D2 = some (.lst qs) ∧ PairsT H' qs (prs 0 (R.take i))) ⟨Same.new hD2, [], upd_same, .nil⟩ (fun i H' _ ⟨s, _⟩ => SqT.of (s _ _ t4)) ?_ ?_
        · rintro i x H4 H5 hi ⟨s5, qs, hq, hP⟩ ⟨T, a, b, rfl, hT, rfl, ha, hb⟩
          cases (Option.some.inj ha)
          obtain ⟨r, hr0, t, rfl, ht⟩ := L2.Paired.at (RowsT.same s5 R4) hb
          have r6' := r6 r (List.mem_of_getElem? hr0)
          have nDT : D2 ≠ T := ne_of_none hq hT
          have s6 := Same.new (H := H4) (o := .tup [.int (i : Nat), .ref t]) hT
          refine ⟨T, _, rfl, SqT.of upd_same, rfl, _, _, rfl, _, _, rfl, rfl, ?_⟩
          refine ⟨rfl, yesT (iteT ?_)⟩
          refine ⟨_, rfl, t, rfl, ⟨_, SqT.of (s6 _ _ ht)⟩, ?_⟩
          refine lc2_in (walk_tup (K := K) (a := t) (xs := vI r)) (fun j H' => Same Hd H' ∧ H' t = some (.tup (vI r)) ∧ ∃ qs, H' D2 = some (.lst qs) ∧ PairsT H' qs (prs 0 (R.take i) ++ (r.take j).map fun x => ((i : Int), x))) ?_ (fun j H' _ ⟨_, h, _⟩ => SqT.of h) ?_ ?_
          · refine ⟨s5.trans s6, s6 _ _ ht, qs, s6 _ _ hq, ?_⟩
            rw [List.take_zero, List.map_nil, List.append_nil]
            exact PairsT.same s6 hP
          · rintro j x H6 H7 hj ⟨s7, ht7, qs7, hq7, hP7⟩ ⟨rfl, hx⟩
            obtain ⟨y, hy, rfl⟩ := vI_at hx
            refine ⟨rfl, yesT (iteT ?_)⟩
            refine ⟨_, rfl, _, rfl, (by show 2 ≤ sizeLine; decide), fun u hu => ?_⟩
            have nDu : D2 ≠ u := ne_of_none hq7 hu
            have s8 := Same.new (H := H7) (o := .tup [.int (i : Int), .int y]) hu
            have hq8 := s8 _ _ hq7
            have ntD : t ≠ D2 := ne_of ht7 hq7 (fun z => nomatch z)
            refine ⟨qs7, hq8, ?_, Same.updN (s7.trans s8) hD2, by rw [upd_ne ntD]; exact s8 _ _ ht7, qs7 ++ [.ref u], upd_same, ?_⟩
            · rw [Paired.length hP7, List.length_append, List.length_map]
              have h1 := nP6 i
              have h2 : (r.take j).length ≤ r.length := List.length_take_le' _ _
              exact Nat.lt_of_le_of_lt (by omega : _ ≤ 42) (by decide)
            · rw [take_more hy, List.map_append, ← List.append_assoc]
              refine L2.Paired.snoc ⟨u, rfl, by rw [upd_ne nDu.symm]; exact upd_same⟩ ?_
              exact PairsT.updL (PairsT.same s8 hP7) hq8
          · rintro H6 ⟨s7, ht7, qs7, hq7, hP7⟩
            rw [vI_len, List.take_length] at hP7
            refine ⟨s7, qs7, hq7, ?_⟩
            rw [take_more hr0, prs_snoc]
            have e : (R.take i).length = i := by rw [List.length_take]; have := (List.getElem?_eq_some_iff.mp hr0).1; omega
            rw [e, Nat.zero_add]
            exact hP7
        · rintro H6 ⟨s7, qs, hq, hP⟩
          rw [lts, List.take_length] at hP
          refine ⟨D2, qs, rfl, .inl ⟨SqL.of hq, fun tp htp => ?_⟩⟩
          have sE : Same Hd (upd H6 tp (.tup qs)) := Same.upd s7 htp
          have P3 := PairsT.same (Same.new (H := H6) (o := .tup qs) htp) hP
          have t5 : (upd H6 tp (.tup qs)) tp = some (.tup qs) := upd_same
          generalize (upd H6 tp (.tup qs)) = He at sE P3 t5
          refine ⟨_, rfl, p, C, dx, _, rfl, sE _ _ pD, S.T.cl, S.T.nP, (by show 2 < 1000; decide), ?_⟩
          rw [tf_3]
          have p9 := sE _ _ pD
          refine k _ (fun b o ne e => by rw [upd_ne ne]; exact sE _ _ (kD _ _ ne e)) ⟨dx, tr, tp, ts, qs, by rw [upd_same, lR], ?_, ?_, ?_, ?_, ?_, by omega, by omega, r6⟩
          · rw [upd_ne npd]; exact sE _ _ (kD _ _ npd hdx)
          · rw [upd_ne (ne_of (sE _ _ t4) p9 (fun z => nomatch z))]; exact sE _ _ t4
          · exact L2.Paired.mapP (RowsT.same sE R4) fun _ _ ⟨t, e, q⟩ => ⟨t, e, by rw [upd_ne (ne_of q p9 (fun z => nomatch z))]; exact q⟩
          · rw [upd_ne (ne_of t5 p9 (fun z => nomatch z))]; exact t5
          · exact L2.Paired.mapP P3 fun _ _ ⟨t, e, q⟩ => ⟨t, e, by rw [upd_ne (ne_of q p9 (fun z => nomatch z))]; exact q⟩
end
end Toy
namespace Toy
open PySem L2
abbrev sGetitem : Stmt := inClass sTable 15
/-- new lists -/
abbrev RowsN (H0 H : Hp) (ls : List V) (R : List (List Int)) : Prop := Paired (fun v r => ∃ t, v = V.ref t ∧ H t = some (.lst (vI r)) ∧ H0 t = none) ls R
def spGetitem (C : Addr) : Sp := fun vs H Q _ => ∃ (p : Addr) (R : List (List Int)) (x : Nat) (r : List Int), vs = [.ref p, .int x] ∧ Tab C H p R ∧ R[x]? = some r ∧ ∀ H' l, Same H H' → H l = none → H' l = some (.lst (vI r)) → Q (.ref l) H'
section
variable {P : Program} {w : World} {K : PySem.W.Frag} {mg : Str → Option Value} {base : Heap}
theorem scGetitem : FnScope ["self", "word"] ["self", "word"] (defScope sGetitem) := ⟨rfl, rfl, rfl, by decide +kernel, rfl, by decide +kernel, by decide +kernel⟩
theorem ok_getitem {f C : Addr} {fd : FuncData} (F : Fun K "__getitem__" "Table.__getitem__" sGetitem f fd) (S : Gs K mg C) : FnOk P w K mg base CX0 3 f fd ["self", "word"] (spGetitem C) := by
  obtain ⟨fW, fdW, FW, mW, bW⟩ := S.isW_
  obtain ⟨fC, fdC, FC, mC, bC⟩ := S.chW
  refine F.ok scGetitem (fun vs H Q E h => ?_) (fun cdv A outer s H vs Q E hr h => ?_)
  · obtain ⟨p, R, x, r, rfl, _⟩ := h
    rfl
  · obtain ⟨p, R, x, r, rfl, hT, hx, k⟩ := h
    obtain ⟨dx, tr, tp, ts, qs, h1, h2, h3, h4, h5, h6, h7, h8, h9⟩ := id hT
    obtain ⟨v, hv, t, rfl, ht⟩ := L2.Paired.at2 h4 hx
    refine ⟨_, pss_cons (ps_expr (pe_call (ok_checkWord FC FW mW bW) hr rfl mC FC.kp bC .nil pass0 (pa_cons (pv 1) (pa_cons (pe_fld (pv 0) rfl) pa_nil))))
      (pss_one (ps_ret (pe_callTy call_list_of (by rfl) S.B.list (by decide +kernel) (pa_cons (pe_ix ix_tup (pe_fld (pv 0) rfl) (pv 1) (fun _ _ => rfl)) pa_nil)))), ?_⟩
    have hxl : x < R.length := (List.getElem?_eq_some_iff.mp hx).1
    have hw : isW R.length (x : Int) = true := by unfold isW; rw [decide_eq_true (by omega : (0 : Int) ≤ x), decide_eq_true (by omega : (x : Int) < R.length)]; rfl
    refine ⟨_, rfl, _, rfl, p, C, dx, _, _, rfl, h1, S.T.cl, S.T.nS, tf_size _ _ _, (x : Int), R.length, rfl, hw, ?_⟩
    refine ⟨_, rfl, p, C, dx, _, _, rfl, h1, S.T.cl, S.T.nR, tf_rows _ _ _, _, rfl, tr, ts, x, _, rfl, rfl, SqT.of h3, atI_nat hv, ?_⟩
    refine ⟨t, _, rfl, .inr (SqT.of ht), fun l hl => ?_⟩
    exact k _ l (Same.new hl) hl upd_same
end
end Toy
namespace Toy
open PySem L2
/-! ### the box -/
def off (b : Addr) (H : Hp) : Hp := fun a => if a = b then none else H a
theorem off_ne {b a : Addr} {H : Hp} (h : a ≠ b) : off b H a = H a := by unfold off; rw [if_neg h]
theorem off_at {b : Addr} {H : Hp} : off b H b = none := by unfold off; rw [if_pos rfl]
theorem off_le {b : Addr} {H : Hp} : Same (off b H) H := fun a o e => by
  by_cases h : a = b
  · rw [h, off_at] at e
    cases e
  · rw [off_ne h] at e
    exact e
theorem off_ne_of {b a : Addr} {H : Hp} {o : HO} (e : off b H a = some o) : a ≠ b := fun z => by
  rw [z, off_at] at e
  cases e
theorem off_upd {b : Addr} {H : Hp} {o : HO} : off b (upd H b o) = off b H := by
  funext a
  by_cases h : a = b
  · rw [h, off_at, off_at]
  · rw [off_ne h, off_ne h, upd_ne h]
theorem off_updN {b p : Addr} {H : Hp} {o : HO} (h : p ≠ b) : off b (upd H p o) = upd (off b H) p o := by
  funext a
  by_cases h1 : a = b
  · rw [h1, off_at, upd_ne (Ne.symm h), off_at]
  · rw [off_ne h1]
    by_cases h2 : a = p
    · rw [h2, upd_same, upd_same]
    · rw [upd_ne h2, upd_ne h2, off_ne h1]
theorem Same.off {b : Addr} {H H' : Hp} (s : Same H H') : Same (Toy.off b H) (Toy.off b H') := fun a o e => by
  have n := off_ne_of e
  rw [off_ne n] at e ⊢
  exact s _ _ e
def BoxAt (H : Hp) (b c : Addr) : Prop := ∃ (cs : List Int) (i pend st : Int), H b = some (.lst [.ref c, .int i, .int pend, .int st]) ∧ H c = some (.lst (vI cs)) ∧ c ≠ b ∧ 0 ≤ i ∧ 0 ≤ pend ∧ 0 ≤ st ∧ st < 2147483647 ∧ ∀ x ∈ cs, 0 ≤ x
theorem BoxAt.same {H H' : Hp} {b c : Addr} (s : Same H H') (h : BoxAt H b c) : BoxAt H' b c := by
  obtain ⟨cs, i, p, st, h1, h2, h3⟩ := h
  exact ⟨cs, i, p, st, s _ _ h1, s _ _ h2, h3⟩
theorem BoxAt.upd {H : Hp} {b c l : Addr} {o : HO} (h : BoxAt H b c) (n : l ≠ b) (n' : l ≠ c) : BoxAt (L2.upd H l o) b c := by
  obtain ⟨cs, i, p, st, h1, h2, h3⟩ := h
  exact ⟨cs, i, p, st, by rw [upd_ne (Ne.symm n)]; exact h1, by rw [upd_ne (Ne.symm n')]; exact h2, h3⟩
theorem BoxAt.nec {H : Hp} {b c p : Addr} (h : BoxAt H b c) (n : H p = none) : p ≠ c := by
  obtain ⟨cs, i, p, st, h1, h2, h3⟩ := h
  exact (ne_of_none h2 n).symm
theorem BoxAt.ne {H : Hp} {b c p : Addr} (h : BoxAt H b c) (n : H p = none) : p ≠ b := by
  obtain ⟨cs, i, p, st, h1, h2, h3⟩ := h
  exact (ne_of_none h1 n).symm
abbrev sBox : Stmt := top 20
abbrev sTake : Stmt := top 21
abbrev sWords : Stmt := top 22
abbrev sRowsL : Stmt := top 23
abbrev sMixed : Stmt := top 25
def spBox (K : PySem.W.Frag) : Sp := fun vs H Q _ => ∃ (a : Addr) (ns : List Int), vs = [.ref a] ∧ SqL K H a (vI ns) ∧ ns.length ≤ 63 ∧ ∀ H' b c, Same H H' → H b = none → BoxAt H' b c → Q (.ref b) H'
def spTake : Sp := fun vs H Q _ => ∃ (b c : Addr) (m : Int), vs = [.ref b, .int m] ∧ BoxAt H b c ∧ 0 < m ∧ m < 1073741824 ∧ ∀ (r : Nat) H', (r : Int) < m → BoxAt H' b c → Same (off b H) (off b H') → Q (.int r) H'
section
variable {P : Program} {w : World} {K : PySem.W.Frag} {mg : Str → Option Value} {base : Heap}
theorem scBox : FnScope ["_law_script", "_law_cell"] ["_law_script"] (defScope sBox) := ⟨rfl, rfl, rfl, by decide +kernel, rfl, by decide +kernel, by decide +kernel⟩
theorem cut_vI (ns : List Int) (lo hi : Option Int) : ∃ ms, cutV (vI ns) lo hi = vI ms ∧ ms.length ≤ ns.length := by
  refine ⟨(ns.drop (HT.sIx (vI ns).length 0 lo)).take (HT.sIx (vI ns).length (vI ns).length hi - HT.sIx (vI ns).length 0 lo), ?_, ?_⟩
  · unfold cutV vI
    rw [List.map_take, List.map_drop]
  · rw [List.length_take, List.length_drop]
    omega
theorem ok_box {f : Addr} {fd : FuncData} (F : Fun K "_law_box" "_law_box" sBox f fd) (B : Bt mg) : FnOk P w K mg base CX0 1 f fd ["_law_script"] (spBox K) := by
  refine F.ok scBox (fun vs H Q E h => ?_) (fun cdv A outer s H vs Q E hr h => ?_)
  · obtain ⟨a, ns, rfl, _⟩ := h
    rfl
  · obtain ⟨a, ns, rfl, hS, hlen, k⟩ := h
    refine ⟨_, pss_one (ps_ret (pe_lst (pa_cons (pe_lc (own := [("_law_cell", 1)]) (g := gName 1) (tt := tYes) rfl scBox.nd (pi_list (pe_slice sl_list (pv 0) po_none (po_some pe_int))) (blkOk_by (own := [("_law_cell", 1)]) (N := ["_law_script", "_law_cell"]) (sc := defScope sBox) (by decide +kernel))
          (fun _ _ _ _ _ => pg_name (i := 1) scBox.nd rfl (Or.inl rfl)) (fun _ _ _ _ _ => pts_nil)
          (fun _ _ _ _ _ => pe_callB call_abs (by rfl) B.abs (by decide +kernel) (pa_cons (pe_callTy call_int1 (by rfl) B.int (by decide +kernel) (pa_cons (pv 1) pa_nil)) pa_nil)))
        (pa_cons pe_int (pa_cons pe_int (pa_cons pe_int pa_nil)))))), ?_⟩
    refine ⟨_, rfl, 63, rfl, a, _, rfl, hS, fun p hp => ?_⟩
    obtain ⟨ms, em, lm⟩ := cut_vI ns none (some 63)
    rw [em]
    refine ⟨p, rfl, ⟨_, SqL.of upd_same⟩, fun D hD => ?_⟩
    have s1 := Same.new (H := H) (o := .lst (vI ms)) hp
    have hp1 : upd H p (.lst (vI ms)) p = some (.lst (vI ms)) := upd_same
    have hD0 := s1.free hD
    generalize upd H p (.lst (vI ms)) = H1 at hD s1 hp1
    refine lc_list (K := K) (a := p) (xs := vI ms) (fun i H' => Same H1 H' ∧ ∃ cs, H' D = some (.lst (vI cs)) ∧ cs.length = i ∧ ∀ x ∈ cs, 0 ≤ x) ⟨Same.new hD, [], upd_same, rfl, fun _ h => nomatch h⟩ (fun i H' _ ⟨s, _⟩ => SqL.of (s _ _ hp1)) ?_ ?_
    · rintro i y H2 hi ⟨s2, cs, hd, el, hc⟩
      obtain ⟨x, hx, rfl⟩ := vI_at hi
      have hi' := (List.getElem?_eq_some_iff.mp hx).1
      refine ⟨rfl, yesT (iteT ?_)⟩
      refine ⟨_, rfl, .inl ⟨_, rfl, _, rfl, ?_⟩⟩
      refine ⟨_, hd, ?_, Same.updN s2 hD, cs ++ [if x < 0 then -x else x], ?_, by simp [el], ?_⟩
      · rw [vI_len, el]
        exact Nat.lt_of_le_of_lt (by omega : i ≤ 63) (by decide)
      · rw [upd_same]
        unfold vI
        rw [List.map_append]
        rfl
      · intro z hz
        rcases List.mem_append.mp hz with h | h
        · exact hc z h
        · rw [List.mem_singleton.mp h]
          split <;> omega
    · rintro H2 ⟨s2, cs, hd, el, hc⟩
      refine ⟨by show 4 ≤ sizeLine; decide, fun b hb => ?_⟩
      have nDb : D ≠ b := ne_of_none hd hb
      refine k _ b D (s1.trans (Same.upd s2 hb)) ((s1.trans s2).free hb) ⟨cs, 0, 0, 0, upd_same, by rw [upd_ne nDb]; exact hd, nDb, by decide, by decide, by decide, by decide, hc⟩
theorem scTake : FnScope ["_law_box_here", "_law_many", "_law_digit", "_law_cell"] ["_law_box_here", "_law_many"] (defScope sTake) := ⟨rfl, rfl, rfl, by decide +kernel, rfl, by decide +kernel, by decide +kernel⟩
theorem ok_take {f : Addr} {fd : FuncData} (F : Fun K "_law_take" "_law_take" sTake f fd) (B : Bt mg) : FnOk P w K mg base CX0 1 f fd ["_law_box_here", "_law_many"] spTake := by
  refine F.ok scTake (fun vs H Q E h => ?_) (fun cdv A outer s H vs Q E hr h => ?_)
  · obtain ⟨b, c, m, rfl, _⟩ := h
    rfl
  · obtain ⟨b, c, m, rfl, ⟨cs, i, pd, st, hb, hc, ncb, i0, p0, s0, s1, c0⟩, m0, m1, k⟩ := h
    refine ⟨_, pss_cons (ps_if (pt_cmpR op_gt (pe_ix ix_list (pv 0) pe_int (fun _ _ => rfl)) pe_int (nomark _))
        (pss_cons (ps_set (i := 2) scTake.nd rfl (Or.inl rfl) (pe_op op_mod (pe_callTy call_int1 (by rfl) B.int (by decide +kernel) (pa_cons (pe_ix ix_list (pv 0) pe_int (fun _ _ => rfl)) pa_nil)) (pv 1)))
          (pss_cons (ps_asg (pe_op op_fdiv (pe_ix ix_list (pv 0) pe_int (fun _ _ => rfl)) (pv 1)) (pg_sub (pv 0) pe_int set_list)) (pss_one (ps_ret (pv 2))))) pss_nil)
      (pss_cons (ps_set (i := 3) scTake.nd rfl (Or.inl rfl) pe_int)
      (C8.pss_cut (ps_if (pt_cmpR op_lt (pe_ix ix_list (pv 0) pe_int (fun _ _ => rfl)) (pe_callB call_len_seq (by rfl) B.len PySem.boot_len (pa_cons (pe_ix ix_list (pv 0) pe_int (fun _ _ => rfl)) pa_nil)) (nomark _))
        (pss_cons (ps_set (i := 3) scTake.nd rfl (Or.inl rfl) (pe_ix ix_list (pe_ix ix_list (pv 0) pe_int (fun _ _ => rfl)) (pe_ix ix_list (pv 0) pe_int (fun _ _ => rfl)) (fun _ _ => rfl)))
          (pss_one (ps_asg (pe_op op_add (pe_ix ix_list (pv 0) pe_int (fun _ _ => rfl)) pe_int) (pg_sub (pv 0) pe_int set_list)))) pss_nil)
      (pss_cons (ps_if (pt_cmpR op_ge (pv 3) (pe_op op_pow pe_int pe_int) (nomark _))
        (pss_cons (ps_asg (pe_op op_fdiv (pv 3) (pv 1)) (pg_sub (pv 0) pe_int set_list)) (pss_one (ps_ret (pe_op op_mod (pe_callTy call_int1 (by rfl) B.int (by decide +kernel) (pa_cons (pv 3) pa_nil)) (pv 1))))) pss_nil)
      (pss_cons (ps_asg (pe_op op_mod (pe_callTy call_int1 (by rfl) B.int (by decide +kernel) (pa_cons (pe_op op_add (pe_op op_mul (pe_ix ix_list (pv 0) pe_int (fun _ _ => rfl)) pe_int) (pv 3)) pa_nil)) pe_int) (pg_sub (pv 0) pe_int set_list))
      (pss_one (ps_ret (pe_op op_mod (pe_callTy call_int1 (by rfl) B.int (by decide +kernel) (pa_cons (pe_op op_fdiv (pe_op op_mod (pe_callTy call_int1 (by rfl) B.int (by decide +kernel) (pa_cons (pe_op op_mul (pe_ix ix_list (pv 0) pe_int (fun _ _ => rfl)) pe_int) pa_nil)) pe_int) pe_int) pa_nil)) (pv 1)))))))), ?_⟩
    have box : ∀ (i' pd' st' : Int), 0 ≤ i' → 0 ≤ pd' → 0 ≤ st' → st' < 2147483647 → BoxAt (upd H b (.lst [.ref c, .int i', .int pd', .int st'])) b c := fun i' pd' st' a1 a2 a3 a4 =>
      ⟨cs, i', pd', st', upd_same, by rw [upd_ne ncb]; exact hc, ncb, a1, a2, a3, a4, c0⟩
    have at0 : ∀ (x y z u : V), atI [x, y, z, u] 0 = some x := fun _ _ _ _ => rfl
    have at1 : ∀ (x y z u : V), atI [x, y, z, u] 1 = some y := fun _ _ _ _ => rfl
    have at2 : ∀ (x y z u : V), atI [x, y, z, u] 2 = some z := fun _ _ _ _ => rfl
    have at3 : ∀ (x y z u : V), atI [x, y, z, u] 3 = some u := fun _ _ _ _ => rfl
    refine ⟨_, rfl, b, _, 2, _, rfl, rfl, SqL.of hb, at2 _ _ _ _, _, _, rfl, rfl, _, rfl, ?_⟩
    refine ite2 (fun q => ?_) (fun q => ?_)
    · -- a digit of what is held back
      refine ⟨_, rfl, b, _, 2, _, rfl, rfl, SqL.of hb, at2 _ _ _ _, .inl ⟨_, rfl, _, rfl, _, _, rfl, rfl, m0, ?_⟩⟩
      refine ⟨_, rfl, b, _, 2, _, rfl, rfl, SqL.of hb, at2 _ _ _ _, _, rfl, _, _, rfl, rfl, ⟨m0, m1⟩, ?_⟩
      refine ⟨_, rfl, b, _, 2, 2, rfl, rfl, hb, rfl, ?_⟩
      refine ⟨_, rfl, ?_⟩
      have h1 := Int.emod_nonneg pd (by omega : m ≠ 0)
      have h2 := Int.emod_lt_of_pos pd m0
      obtain ⟨r, hr'⟩ := Int.eq_ofNat_of_zero_le h1
      have z := k r _ (by omega) (box i (pd / m) st i0 (Int.ediv_nonneg p0 (by omega)) s0 s1) (by rw [off_upd]; exact Same.refl _)
      rw [← hr'] at z
      exact z
    · refine ⟨fun σ' H' => ∃ (i' cell : Int), σ' = [some (.ref b), some (.int m), none, some (.int cell)] ∧ 0 ≤ i' ∧ 0 ≤ cell ∧ H' b = some (.lst [.ref c, .int i', .int pd, .int st]) ∧ Same (off b H) (off b H'), ?_, ?_⟩
      · refine ⟨_, rfl, b, _, 1, _, rfl, rfl, SqL.of hb, at1 _ _ _ _, ?_⟩
        refine ⟨_, rfl, b, _, 0, _, rfl, rfl, SqL.of hb, at0 _ _ _ _, c, _, rfl, .inl (SqL.of hc), _, _, rfl, rfl, _, rfl, ?_⟩
        refine ite2 (fun q => ?_) (fun q => ⟨i, 0, rfl, i0, by decide, hb, Same.refl _⟩)
        rw [decide_eq_true_iff, vI_len] at q
        obtain ⟨i1, rfl⟩ := Int.eq_ofNat_of_zero_le i0
        obtain ⟨x, hx⟩ : ∃ x, cs[i1]? = some x := ⟨_, List.getElem?_eq_getElem (by omega)⟩
        have hxv : (vI cs)[i1]? = some (.int x) := by unfold vI; rw [List.getElem?_map, hx]; rfl
        refine ⟨_, rfl, b, _, 0, _, rfl, rfl, SqL.of hb, at0 _ _ _ _, ?_⟩
        refine ⟨_, rfl, b, _, 1, _, rfl, rfl, SqL.of hb, at1 _ _ _ _, c, _, _, _, rfl, rfl, SqL.of hc, atI_nat hxv, ?_⟩
        refine ⟨_, rfl, b, _, 1, _, rfl, rfl, SqL.of hb, at1 _ _ _ _, _, _, rfl, rfl, ?_⟩
        refine ⟨_, rfl, b, _, 1, 1, rfl, rfl, hb, rfl, ?_⟩
        exact ⟨(i1 : Int) + 1, x, rfl, by omega, c0 x (List.mem_of_getElem? hx), upd_same, by rw [off_upd]; exact Same.refl _⟩
      · rintro σ' H' ⟨i', cell, rfl, j0, c1, hb', so⟩
        have hc' : H' c = some (.lst (vI cs)) := off_le _ _ (so _ _ (by rw [off_ne ncb]; exact hc))
        have box : ∀ (i' pd' st' : Int), 0 ≤ i' → 0 ≤ pd' → 0 ≤ st' → st' < 2147483647 → BoxAt (upd H' b (.lst [.ref c, .int i', .int pd', .int st'])) b c := fun i' pd' st' a1 a2 a3 a4 =>
          ⟨cs, i', pd', st', upd_same, by rw [upd_ne ncb]; exact hc', ncb, a1, a2, a3, a4, c0⟩
        refine ⟨_, rfl, _, _, rfl, rfl, ⟨by decide, by decide, by decide⟩, _, _, rfl, rfl, _, rfl, ?_⟩
        refine ite2 (fun q => ?_) (fun q => ?_)
        · refine ⟨_, rfl, _, rfl, _, _, rfl, rfl, ⟨m0, m1⟩, ?_⟩
          refine ⟨_, rfl, b, _, 2, 2, rfl, rfl, hb', rfl, ?_⟩
          refine ⟨_, rfl, .inl ⟨_, rfl, _, rfl, _, _, rfl, rfl, m0, ?_⟩⟩
          have h1 := Int.emod_nonneg cell (by omega : m ≠ 0)
          have h2 := Int.emod_lt_of_pos cell m0
          obtain ⟨r, hr'⟩ := Int.eq_ofNat_of_zero_le h1
          have z := k r _ (by omega) (box i' (cell / m) st j0 (Int.ediv_nonneg c1 (by omega)) s0 s1) (by rw [off_upd]; exact so)
          rw [← hr'] at z
          exact z
        · refine ⟨_, rfl, b, _, 3, _, rfl, rfl, SqL.of hb', at3 _ _ _ _, _, _, rfl, rfl, .inl ⟨by omega, by omega⟩, ?_⟩
          refine ⟨_, rfl, _, _, rfl, rfl, .inl ⟨_, rfl, _, _, rfl, rfl, (by show (0 : Int) < 2147483647; decide), ?_⟩⟩
          refine ⟨_, rfl, b, _, 3, 3, rfl, rfl, hb', rfl, ?_⟩
          have h1 := Int.emod_nonneg (st * 48271 + cell) (by decide : (2147483647 : Int) ≠ 0)
          have h2 := Int.emod_lt_of_pos (st * 48271 + cell) (by decide : (0 : Int) < 2147483647)
          have bx := box i' pd ((st * 48271 + cell) % 2147483647) j0 p0 h1 h2
          have eb : (upd H' b (.lst [.ref c, .int i', .int pd, .int ((st * 48271 + cell) % 2147483647)])) b = some (.lst [.ref c, .int i', .int pd, .int ((st * 48271 + cell) % 2147483647)]) := upd_same
          have so2 : Same (off b H) (off b (upd H' b (.lst [.ref c, .int i', .int pd, .int ((st * 48271 + cell) % 2147483647)]))) := by rw [off_upd]; exact so
          refine ⟨_, rfl, b, _, 3, _, rfl, rfl, SqL.of eb, at3 _ _ _ _, _, _, rfl, rfl, .inl ⟨by omega, by omega⟩, .inl ⟨_, rfl, _, _, rfl, rfl, (by show (0 : Int) < 2147483629; decide), _, _, rfl, rfl, ⟨by decide, by decide⟩, .inl ⟨_, rfl, _, rfl, _, _, rfl, rfl, m0, ?_⟩⟩⟩
          have h3 := Int.emod_nonneg ((st * 48271 + cell) % 2147483647 * 69621 % 2147483629 / 16) (by omega : m ≠ 0)
          have h4 := Int.emod_lt_of_pos ((st * 48271 + cell) % 2147483647 * 69621 % 2147483629 / 16) m0
          obtain ⟨r, hr'⟩ := Int.eq_ofNat_of_zero_le h3
          have z := k r _ (by omega) bx so2
          rw [← hr'] at z
          exact z
end
end Toy
namespace Toy
open PySem L2
/-! ### canonical lists of words -/
def Can (n : Nat) (ws : List Int) : Prop := asc ws n = ws
theorem asc_congr {a b : List Int} : ∀ {n : Nat}, (∀ j : Nat, j < n → (((j : Int) ∈ a) ↔ ((j : Int) ∈ b))) → asc a n = asc b n
  | 0, _ => rfl
  | n + 1, h => by
    rw [asc_succ, asc_succ, asc_congr (n := n) fun j hj => h j (by omega)]
    have q := h n (by omega)
    by_cases c : (n : Int) ∈ a
    · rw [if_pos c, if_pos (q.mp c)]
    · rw [if_neg c, if_neg fun z => c (q.mpr z)]
theorem asc_mem {ns : List Int} {n : Nat} {x : Int} (h : x ∈ asc ns n) : x ∈ ns ∧ 0 ≤ x ∧ x < (n : Int) := by
  unfold asc at h
  obtain ⟨i, hi, rfl⟩ := List.mem_map.mp h
  obtain ⟨h1, h2⟩ := List.mem_filter.mp hi
  have := List.mem_range.mp h1
  exact ⟨of_decide_eq_true h2, by omega, by omega⟩
theorem Can.mem {n : Nat} {ws : List Int} (c : Can n ws) {x : Int} (h : x ∈ ws) : 0 ≤ x ∧ x < (n : Int) := by
  have c' : asc ws n = ws := c
  rw [← c'] at h
  exact (asc_mem h).2
theorem Can.len {n : Nat} {ws : List Int} (c : Can n ws) : ws.length ≤ n := by
  have c' : asc ws n = ws := c
  rw [← c']
  exact asc_len _ _
theorem Can.skip {n : Nat} {ws : List Int} (c : Can n ws) : Can (n + 1) ws := by
  show asc ws (n + 1) = ws
  rw [asc_succ, if_neg fun h => by have := c.mem h; omega]
  exact c
theorem Can.add {n : Nat} {ws : List Int} (c : Can n ws) : Can (n + 1) (ws ++ [(n : Int)]) := by
  show asc (ws ++ [(n : Int)]) (n + 1) = _
  rw [asc_succ, if_pos (by simp)]
  have e : asc (ws ++ [(n : Int)]) n = asc ws n := asc_congr fun j hj => by
    have : ¬ ((j : Int) = (n : Int)) := by omega
    simp [this]
  rw [e, c]
theorem Can.one {n : Nat} {x : Nat} (h : x < n) : Can n [(x : Int)] := by
  induction n with
  | zero => omega
  | succ n ih =>
    by_cases e : x = n
    · subst e
      exact Can.add (n := x) (ws := []) (by
        show asc [] x = []
        unfold asc
        simp)
    · exact (ih (by omega)).skip
theorem Can.nil {n : Nat} : Can n [] := by
  show asc [] n = []
  unfold asc
  simp
theorem six : ∀ i : Nat, i < 6 → ∃ d : Int, ([V.int 1, V.int 2, V.int 4, V.int 8, V.int 16, V.int 32] : List V)[i]? = some (.int d) ∧ 0 < d ∧ d < 1073741824
  | 0, _ => ⟨1, rfl, by decide, by decide⟩
  | 1, _ => ⟨2, rfl, by decide, by decide⟩
  | 2, _ => ⟨4, rfl, by decide, by decide⟩
  | 3, _ => ⟨8, rfl, by decide, by decide⟩
  | 4, _ => ⟨16, rfl, by decide, by decide⟩
  | 5, _ => ⟨32, rfl, by decide, by decide⟩
  | i + 6, h => by omega
theorem seven : ∀ i : Nat, 1 ≤ i → i ≤ 6 → ∃ d : Int, ([V.int 1, V.int 2, V.int 4, V.int 8, V.int 16, V.int 32, V.int 64] : List V)[i]? = some (.int d) ∧ 2 ≤ d ∧ d ≤ 64
  | 0, h, _ => by omega
  | 1, _, _ => ⟨2, rfl, by decide, by decide⟩
  | 2, _, _ => ⟨4, rfl, by decide, by decide⟩
  | 3, _, _ => ⟨8, rfl, by decide, by decide⟩
  | 4, _, _ => ⟨16, rfl, by decide, by decide⟩
  | 5, _, _ => ⟨32, rfl, by decide, by decide⟩
  | 6, _, _ => ⟨64, rfl, by decide, by decide⟩
  | i + 7, _, h => by omega
def spWords : Sp := fun vs H Q _ => ∃ (b c : Addr) (n : Nat) (least : Int), vs = [.ref b, .int n, .int least] ∧ BoxAt H b c ∧ 1 ≤ n ∧ n ≤ 6 ∧ 0 ≤ least ∧ least ≤ 1 ∧
  ∀ H' l ws, BoxAt H' b c → Same (off b H) (off b H') → off b H l = none → off b H' l = some (.lst (vI ws)) → Can n ws → Q (.ref l) H'
structure Lt (K : PySem.W.Frag) (mg : Str → Option Value) : Prop where
  B : Bt mg
  take : ∃ f fd, Fun K "_law_take" "_law_take" sTake f fd ∧ mg "_law_take" = some (.ref f) ∧ Binds K fd ["_law_box_here", "_law_many"] []
  words : ∃ f fd, Fun K "_law_words" "_law_words" sWords f fd ∧ mg "_law_words" = some (.ref f) ∧ Binds K fd ["_law_box_here", "_law_n", "_law_least"] []
section
variable {P : Program} {w : World} {K : PySem.W.Frag} {mg : Str → Option Value} {base : Heap}
theorem scWords : FnScope ["_law_box_here", "_law_n", "_law_least", "_law_mask", "_law_word"] ["_law_box_here", "_law_n", "_law_least"] (defScope sWords) := ⟨rfl, rfl, rfl, by decide +kernel, rfl, by decide +kernel, by decide +kernel⟩
theorem off_free {b l : Addr} {H : Hp} (h : H l = none) : off b H l = none := by
  by_cases e : l = b
  · rw [e, off_at]
  · rw [off_ne e]; exact h
theorem ok_words {f : Addr} {fd : FuncData} (F : Fun K "_law_words" "_law_words" sWords f fd) (S : Lt K mg) : FnOk P w K mg base CX0 2 f fd ["_law_box_here", "_law_n", "_law_least"] spWords := by
  obtain ⟨fT, fdT, FT, mT, bT⟩ := S.take
  refine F.ok scWords (fun vs H Q E h => ?_) (fun cdv A outer s H vs Q E hr h => ?_)
  · obtain ⟨b, c, n, least, rfl, _⟩ := h
    rfl
  · obtain ⟨b, c, n, least, rfl, hb, n1, n6, l0, l1, k⟩ := h
    refine ⟨_, pss_cons (ps_set (i := 3) scWords.nd rfl (Or.inr rfl) (pe_op op_add (pv 2) (pe_call (ok_take FT S.B) hr rfl mT FT.kp bT .nil pass0 (pa_cons (pv 0) (pa_cons (pe_op op_sub
        (pe_ix ix_list (pe_lst (pa_cons pe_int (pa_cons pe_int (pa_cons pe_int (pa_cons pe_int (pa_cons pe_int (pa_cons pe_int (pa_cons pe_int pa_nil)))))))) (pv 1) (fun _ _ => rfl)) (pv 2)) pa_nil)))))
      (pss_one (ps_ret (pe_lc (own := [("_law_word", 4)]) (g := gName 4)
          (tt := tTest (tOp rEq (tOp (rI (fun _ j => 0 < j) fun i j => .int (i % j)) (tCB (fun xs H Q => (∃ i, xs = [.int i] ∧ Q (.int i) H) ∨ ∃ k, xs = [.bl k] ∧ Q (.int (if k then 1 else 0)) H) (tCons (tOp (rI CDiv fun i j => .int (i / j)) (tVar 3)
            (tOp (rIxL K) (tLst (tCons (tC (.int 1)) (tCons (tC (.int 2)) (tCons (tC (.int 4)) (tCons (tC (.int 8)) (tCons (tC (.int 16)) (tCons (tC (.int 32)) tNil))))))) (tVar 4))) tNil)) (tC (.int 2))) (tC (.int 1))))
          rfl scWords.nd (pi_range1 (by rfl) S.B.range (pa_cons (pv 1) pa_nil)) (blkOk_by (own := [("_law_word", 4)]) (N := ["_law_box_here", "_law_n", "_law_least", "_law_mask", "_law_word"]) (sc := defScope sWords) (by decide +kernel))
          (fun _ _ _ _ _ => pg_name (i := 4) scWords.nd rfl (Or.inl rfl))
          (fun _ _ _ _ _ => pts_one (pt_cmpR op_eq (pe_op op_mod (pe_callTy call_int1 (by rfl) S.B.int (by decide +kernel) (pa_cons (pe_op op_fdiv (pv 3)
            (pe_ix ix_list (pe_lst (pa_cons pe_int (pa_cons pe_int (pa_cons pe_int (pa_cons pe_int (pa_cons pe_int (pa_cons pe_int pa_nil))))))) (pv 4) (fun _ _ => rfl))) pa_nil)) pe_int) pe_int (nomark _)))
          (fun _ _ _ _ _ => pv 4)))), ?_⟩
    obtain ⟨d, hd, d2, d64⟩ := seven n n1 n6
    refine ⟨_, rfl, _, rfl, by show 7 ≤ sizeLine; decide, fun p hp => ?_⟩
    refine ⟨_, rfl, p, _, n, _, rfl, rfl, SqL.of upd_same, atI_nat hd, _, rfl, _, _, rfl, rfl, ?_⟩
    have pb := hb.ne hp
    have s0 := Same.new (H := H) (o := .lst [V.int 1, V.int 2, V.int 4, V.int 8, V.int 16, V.int 32, V.int 64]) hp
    refine ⟨b, c, d - least, rfl, hb.same s0, by omega, by omega, fun r H1 hr1 hb1 so1 => ?_⟩
    refine ⟨_, _, rfl, rfl, ?_⟩
    have so := L2.Same.trans (Same.off (b := b) s0) so1
    refine ⟨_, rfl, n, rfl, by omega, by omega, fun D hD => ?_⟩
    have nDb := hb1.ne hD
    have hDo : off b H D = none := so.free (off_free hD)
    refine lc_range (lo := 0) (n := n) (fun i H' => Same H1 H' ∧ ∃ ws, H' D = some (.lst (vI ws)) ∧ Can i ws) ⟨Same.new hD, [], upd_same, .nil⟩ ?_ ?_
    · rintro i H2 hi ⟨s2, ws, hd2, hc⟩
      obtain ⟨e, he, e0, e1⟩ := six i (by omega)
      refine ⟨rfl, ?_⟩
      refine ⟨_, rfl, by show 6 ≤ sizeLine; decide, fun q hq => ?_⟩
      have nDq : D ≠ q := ne_of_none hd2 hq
      have s3 := Same.new (H := H2) (o := .lst [V.int 1, V.int 2, V.int 4, V.int 8, V.int 16, V.int 32]) hq
      refine ⟨_, rfl, q, _, _, _, rfl, rfl, SqL.of upd_same, at_of (j := i) (by omega) he, _, _, rfl, rfl, ⟨e0, e1⟩, .inl ⟨_, rfl, _, _, rfl, rfl, (by show (0 : Int) < 2; decide), rfl, _, rfl, ?_⟩⟩
      refine ite2 (fun _ => ?_) (fun _ => ?_)
      · refine ⟨_, rfl, _, s3 _ _ hd2, ?_, Same.updN (s2.trans s3) hD, ws ++ [(i : Int)], ?_, hc.add⟩
        · rw [vI_len]
          exact Nat.lt_of_le_of_lt (Nat.le_trans hc.len (by omega : i ≤ 6)) (by decide)
        · rw [upd_same]
          unfold vI
          rw [List.map_append, Int.zero_add]
          rfl
      · exact ⟨s2.trans s3, ws, s3 _ _ hd2, hc.skip⟩
    · rintro H2 ⟨s2, ws, hd2, hc⟩
      exact k H2 D ws (hb1.same s2) (so.trans (Same.off s2)) hDo (by rw [off_ne nDb]; exact hd2) hc
end
end Toy
namespace Toy
open PySem L2
/-! ### data compared -/
def dI (ns : List Int) : List PyData := ns.map PyData.int
theorem eqv_dI : ∀ a b : List Int, PyData.eqvAll (dI a) (dI b) = decide (a = b)
  | [], [] => by simp [dI, PyData.eqvAll]
  | [], _ :: _ => by simp [dI, PyData.eqvAll]
  | _ :: _, [] => by simp [dI, PyData.eqvAll]
  | x :: a, y :: b => by
    have ih := eqv_dI a b
    show PyData.eqvAll (.int x :: dI a) (.int y :: dI b) = _
    rw [PyData.eqvAll, PyData.eqv, ih]
    by_cases h : x = y
    · subst h
      simp
    · simp [h]
theorem lay_dI : ∀ a : List Int, PyData.canLayAll0 (dI a) = true
  | [] => rfl
  | x :: a => by
    show (PyData.canLay0 (.int x) && PyData.canLayAll0 (dI a)) = true
    rw [lay_dI a]
    rfl
theorem dep_dI : ∀ a : List Int, PyData.depthAll (dI a) = 0
  | [] => rfl
  | x :: a => by
    show max (PyData.depth (.int x)) (PyData.depthAll (dI a)) = 0
    rw [dep_dI a]
    rfl
theorem shI (a : List Int) : SeqAt.shaped (.list (dI a)) = true := by
  show (PyData.canLayAll0 (dI a) && decide (PyData.depthAll (dI a) + 1 ≤ 64)) = true
  rw [lay_dI, dep_dI]
  rfl
theorem eqI (a b : List Int) : PyData.eqv (.list (dI a)) (.list (dI b)) = decide (a = b) := by rw [PyData.eqv, eqv_dI]
theorem dpAllI {K : PySem.W.Frag} {H : Hp} : ∀ a : List Int, DpAll K H (vI a) (dI a)
  | [] => .nil
  | x :: a => .cons (.int x) (dpAllI a)
theorem dpI {K : PySem.W.Frag} {H : Hp} {l : Addr} {a : List Int} (h : SqL K H l (vI a)) : Dp K H (.ref l) (.list (dI a)) := .lst h (dpAllI a)
/-! ### rows that are new -/
theorem RowsN.same {G0 G G' : Hp} {ls R} (s : Same G G') (h : RowsN G0 G ls R) : RowsN G0 G' ls R := L2.Paired.mapP h fun _ _ ⟨t, e, q, z⟩ => ⟨t, e, s _ _ q, z⟩
theorem RowsN.rows {G0 G : Hp} {ls R} (h : RowsN G0 G ls R) : RowsL G ls R := L2.Paired.mapP h fun _ _ ⟨t, e, q, z⟩ => ⟨t, e, q⟩
theorem RowsN.snoc {G0 G : Hp} {l t : Addr} {o : HO} {ls R r} (h : RowsN G0 G ls R) (nl : ∀ v ∈ ls, v ≠ .ref l) (ht : G t = some (.lst (vI r))) (h0 : G0 t = none) (n : t ≠ l) :
    RowsN G0 (upd G l o) (ls ++ [.ref t]) (R ++ [r]) ∧ ∀ v ∈ ls ++ [V.ref t], v ≠ .ref l := by
  refine ⟨L2.Paired.snoc ⟨t, rfl, by rw [upd_ne n]; exact ht, h0⟩ (PairedIn.map h fun v r hv ⟨t', e, q, z⟩ => ⟨t', e, ?_, z⟩), fun v hv => ?_⟩
  · rw [upd_ne fun z => nl v hv (by rw [e, z])]
    exact q
  · rcases List.mem_append.mp hv with hv | hv
    · exact nl v hv
    · rw [List.mem_singleton.mp hv]
      exact fun z => n (V.ref.inj z)
def spRowsL : Sp := fun vs H Q _ => ∃ (b c : Addr) (n : Nat) (least : Int), vs = [.ref b, .int n, .int least] ∧ BoxAt H b c ∧ 1 ≤ n ∧ n ≤ 6 ∧ 0 ≤ least ∧ least ≤ 1 ∧
  ∀ H' l ls R, BoxAt H' b c → Same (off b H) (off b H') → off b H l = none → off b H' l = some (.lst ls) → RowsN (off b H) (off b H') ls R → R.length = n → (∀ r ∈ R, Can n r) → Q (.ref l) H'
end Toy
namespace Toy
open PySem L2
section
variable {P : Program} {w : World} {K : PySem.W.Frag} {mg : Str → Option Value} {base : Heap}
theorem scRowsL : FnScope ["_law_box_here", "_law_n", "_law_least", "_law_rows_here", "_law_k"] ["_law_box_here", "_law_n", "_law_least"] (defScope sRowsL) := ⟨rfl, rfl, rfl, by decide +kernel, rfl, by decide +kernel, by decide +kernel⟩
theorem ok_rowsL {f : Addr} {fd : FuncData} (F : Fun K "_law_rows" "_law_rows" sRowsL f fd) (S : Lt K mg) : FnOk P w K mg base CX0 3 f fd ["_law_box_here", "_law_n", "_law_least"] spRowsL := by
  obtain ⟨fT, fdT, FT, mT, bT⟩ := S.take
  obtain ⟨fW, fdW, FW, mW, bW⟩ := S.words
  refine F.ok scRowsL (fun vs H Q E h => ?_) (fun cdv A outer s H vs Q E hr h => ?_)
  · obtain ⟨b, c, n, least, rfl, _⟩ := h
    rfl
  · obtain ⟨b, c, n, least, rfl, hb, n1, n6, l0, l1, k⟩ := h
    have hr1 : Room 1 _ := hr.mono (by decide)
    refine ⟨_, pss_cons (ps_set (i := 3) scRowsL.nd rfl (Or.inl rfl) (pe_lst pa_nil))
      (pss_cons (ps_for PassesOwn.never rfl (pi_range1 (by rfl) S.B.range (pa_cons (pv 1) pa_nil)) (pg_name (i := 4) scRowsL.nd rfl (Or.inl rfl))
        (pss_one (ps_if (pt_cmpR op_eq (pe_call (ok_take FT S.B) hr1 rfl mT FT.kp bT .nil pass0 (pa_cons (pv 0) (pa_cons pe_int pa_nil))) pe_int (nomark _))
          (pss_one (ps_expr (pe_bm PySem.F.plainAttrs_list PySem.F.slot_list_append PySem.F.type_list_append mt_append (pv 3) (pa_cons (pe_lst (pa_cons (pe_call (ok_take FT S.B) hr1 rfl mT FT.kp bT .nil pass0 (pa_cons (pv 0) (pa_cons (pv 1) pa_nil))) pa_nil)) pa_nil))))
          (pss_one (ps_expr (pe_bm PySem.F.plainAttrs_list PySem.F.slot_list_append PySem.F.type_list_append mt_append (pv 3) (pa_cons (pe_call (ok_words FW S) hr rfl mW FW.kp bW .nil pass0 (pa_cons (pv 0) (pa_cons (pv 1) (pa_cons (pv 2) pa_nil)))) pa_nil)))))))
      (pss_one (ps_ret (pv 3)))), ?_⟩
    refine ⟨Nat.zero_le _, fun l hl => ?_⟩
    have lb := hb.ne hl
    have lc := hb.nec hl
    refine ⟨_, rfl, n, rfl, by omega, by omega, ?_⟩
    refine for_range (lo := 0) (n := n) (fun i σ H' => ∃ (v : Option V) (ls : List V) (R : List (List Int)), σ = [some (.ref b), some (.int n), some (.int least), some (.ref l), v] ∧ BoxAt H' b c ∧ Same (off b H) (off b H') ∧
        off b H' l = some (.lst ls) ∧ RowsN (off b H) (off b H') ls R ∧ (∀ v ∈ ls, v ≠ .ref l) ∧ R.length = i ∧ ∀ r ∈ R, Can n r)
      ⟨none, [], [], rfl, hb.same (Same.new hl), by rw [off_updN lb]; exact Same.new (off_free hl), by rw [off_ne lb]; exact upd_same, .nil, fun _ h => (by cases h), rfl, fun _ h => (by cases h)⟩ ?_ ?_
    · rintro i σ H1 hi ⟨v, ls, R, rfl, hb1, s1, hl1, hR, nl, eR, hC⟩
      have hlen : ls.length ≤ 6 := by rw [Paired.length hR]; omega
      refine ⟨_, rfl, b, c, 3, rfl, hb1, by decide, by decide, fun r1 H2 hr1 hb2 s2 => ?_⟩
      refine ⟨rfl, _, rfl, ?_⟩
      have hl2 := s2 _ _ hl1
      refine ite2 (fun _ => ?_) (fun _ => ?_)
      · refine ⟨_, rfl, .inl ⟨rfl, _, SqL.of (off_le _ _ hl2)⟩, _, rfl, _, rfl, b, c, (n : Int), rfl, hb2, by omega, by omega, fun r H3 hr3 hb3 s3 => ?_⟩
        refine ⟨by show 1 ≤ sizeLine; decide, fun q hq => ?_⟩
        have qb := hb3.ne hq
        have hl3 := s3 _ _ hl2
        have s4 : Same (off b H3) (off b (upd H3 q (.lst [V.int (r : Int)]))) := Same.off (Same.new hq)
        have hl4 := s4 _ _ hl3
        have hq4 : off b (upd H3 q (.lst [V.int (r : Int)])) q = some (.lst (vI [(r : Int)])) := by rw [off_ne qb]; exact upd_same
        have hb4 := hb3.same (Same.new (o := .lst [V.int (r : Int)]) hq)
        have q0 : off b H q = none := (s1.trans (s2.trans s3)).free (off_free hq)
        have ql : q ≠ l := (ne_of_none hl3 (off_free hq)).symm
        have sT := s2.trans (s3.trans s4)
        have hRT := RowsN.same sT hR
        generalize upd H3 q (.lst [V.int (r : Int)]) = H4 at s4 hl4 hq4 hb4 sT hRT
        obtain ⟨z1, z2⟩ := RowsN.snoc (o := .lst (ls ++ [.ref q])) hRT nl hq4 q0 ql
        refine ⟨l, ls, _, rfl, rfl, off_le _ _ hl4, Nat.lt_of_le_of_lt hlen (by decide), _, ls ++ [.ref q], R ++ [[(r : Int)]], rfl, ?_, ?_, ?_, ?_, z2, by rw [List.length_append, eR]; rfl, ?_⟩
        · exact hb4.upd lb lc
        · rw [off_updN lb]
          exact Same.updN (s1.trans sT) (off_free hl)
        · rw [off_updN lb]; exact upd_same
        · rw [off_updN lb]; exact z1
        · intro r' h
          rcases List.mem_append.mp h with h | h
          · exact hC _ h
          · rw [List.mem_singleton.mp h]
            exact Can.one (by omega)
      · refine ⟨_, rfl, .inl ⟨rfl, _, SqL.of (off_le _ _ hl2)⟩, _, rfl, _, rfl, _, rfl, b, c, n, least, rfl, hb2, n1, n6, l0, l1, fun H3 q ws hb3 s3 q0 hq hC' => ?_⟩
        have hl3 := s3 _ _ hl2
        have ql : q ≠ l := (ne_of_none hl2 q0).symm
        have q00 : off b H q = none := (s1.trans s2).free q0
        have sT := s2.trans s3
        have hRT := RowsN.same sT hR
        obtain ⟨z1, z2⟩ := RowsN.snoc (o := .lst (ls ++ [.ref q])) hRT nl hq q00 ql
        refine ⟨l, ls, _, rfl, rfl, off_le _ _ hl3, Nat.lt_of_le_of_lt hlen (by decide), _, ls ++ [.ref q], R ++ [ws], rfl, hb3.upd lb lc, ?_, ?_, ?_, z2, by rw [List.length_append, eR]; rfl, ?_⟩
        · rw [off_updN lb]
          exact Same.updN (s1.trans sT) (off_free hl)
        · rw [off_updN lb]; exact upd_same
        · rw [off_updN lb]; exact z1
        · intro r' h
          rcases List.mem_append.mp h with h | h
          · exact hC _ h
          · rw [List.mem_singleton.mp h]
            exact hC'
    · rintro σ H1 ⟨v, ls, R, rfl, hb1, s1, hl1, hR, nl, eR, hC⟩
      exact ⟨_, rfl, k H1 l ls R hb1 s1 (off_free hl) hl1 hR eR hC⟩
end
end Toy
namespace Toy
open PySem L2
theorem Tab.off {C b c : Addr} {H : Hp} {p : Addr} {R} (h : Tab C H p R) (hb : BoxAt H b c) : Tab C (Toy.off b H) p R := by
  obtain ⟨dx, tr, tp, ts, qs, h1, h2, h3, h4, h5, h6, h7⟩ := h
  obtain ⟨cs, i, pd, st, e, _⟩ := hb
  have ne : ∀ {a : Addr} {o : HO}, H a = some o → o ≠ .lst [.ref c, .int i, .int pd, .int st] → Toy.off b H a = some o := fun q d => by rw [off_ne (ne_of q e d)]; exact q
  exact ⟨dx, tr, tp, ts, qs, ne h1 (fun z => nomatch z), ne h2 (fun z => nomatch z), ne h3 (fun z => nomatch z), L2.Paired.mapP h4 fun _ _ ⟨t, e, q⟩ => ⟨t, e, ne q (fun z => nomatch z)⟩, ne h5 (fun z => nomatch z), L2.Paired.mapP h6 fun _ _ ⟨t, e, q⟩ => ⟨t, e, ne q (fun z => nomatch z)⟩, h7⟩
theorem Tab.updL {C : Addr} {H : Hp} {p a : Addr} {xs ys : List V} {R} (h : Tab C H p R) (e : H a = some (.lst xs)) : Tab C (upd H a (.lst ys)) p R := by
  obtain ⟨dx, tr, tp, ts, qs, h1, h2, h3, h4, h5, h6, h7⟩ := h
  have ne : ∀ {b : Addr} {o : HO}, H b = some o → o ≠ .lst xs → upd H a (.lst ys) b = some o := fun q d => by rw [upd_ne (ne_of q e d)]; exact q
  exact ⟨dx, tr, tp, ts, qs, ne h1 (fun z => nomatch z), ne h2 (fun z => nomatch z), ne h3 (fun z => nomatch z), L2.Paired.mapP h4 fun _ _ ⟨t, e, q⟩ => ⟨t, e, ne q (fun z => nomatch z)⟩, ne h5 (fun z => nomatch z), L2.Paired.mapP h6 fun _ _ ⟨t, e, q⟩ => ⟨t, e, ne q (fun z => nomatch z)⟩, h7⟩
theorem Paired.mem {α β : Type} {F : α → β → Prop} {xs : List α} {ys : List β} (h : Paired F xs ys) {x : α} (m : x ∈ xs) : ∃ y, y ∈ ys ∧ F x y := by
  obtain ⟨i, hi⟩ := List.mem_iff_getElem?.mp m
  obtain ⟨y, hy, f⟩ := L2.Paired.at h hi
  exact ⟨y, List.mem_of_getElem? hy, f⟩
/-- a table made of canonical rows has these rows -/
theorem same_rows {n : Nat} : ∀ {R : List (List Int)}, (∀ r ∈ R, Can n r) → (R.map fun g => asc g n) = R
  | [], _ => rfl
  | r :: R, c => by
    have ih := same_rows fun r hr => c r (List.mem_cons_of_mem _ hr)
    have cr : asc r n = r := c r List.mem_cons_self
    rw [List.map_cons, ih, cr]
theorem can_all {n : Nat} {R : List (List Int)} (hC : ∀ r ∈ R, Can n r) (h6 : n ≤ 6) : ∀ g ∈ R, g.length < sizeLine ∧ g.all (isW n) = true := fun g hg => by
  refine ⟨Nat.lt_of_le_of_lt (Nat.le_trans (hC g hg).len h6) (by decide), List.all_eq_true.mpr fun x hx => ?_⟩
  have := (hC g hg).mem hx
  unfold isW
  rw [decide_eq_true this.1, decide_eq_true this.2]
  rfl
theorem BoxAt.keep {H H' : Hp} {b c x : Addr} (h : BoxAt H b c) (hx : H x = none) (k : ∀ q o, q ≠ x → H q = some o → H' q = some o) : BoxAt H' b c :=
  h.same fun q o e => k q o (ne_of_none e hx) e
def spLaw (K : PySem.W.Frag) : Sp := fun vs H Q _ => ∃ (a : Addr) (ns : List Int), vs = [.ref a] ∧ SqL K H a (ns.map V.int) ∧ ns.length ≤ 63 ∧ ∀ H', Q (.bl true) H'
end Toy
namespace L2
open PySem PySem.Spec PyProof.Rows
/-- what a scope's names become within another block -/
theorem lk_re {env : Env} {x : Str} : ∀ {names : List (Str × NameKind)}, (names.lookup x = some .cell ∨ names.lookup x = some .free) →
    (names.map fun (n, k) => if (k == NameKind.free && env.scope.kind == .function && env.kindOf n == some .cell) then (n, NameKind.cell) else (n, k)).lookup x = some .cell ∨
    (names.map fun (n, k) => if (k == NameKind.free && env.scope.kind == .function && env.kindOf n == some .cell) then (n, NameKind.cell) else (n, k)).lookup x = some .free
  | [], h => by simp at h
  | (n, k) :: r, h => by
    have ih := @lk_re env x r
    simp only [List.map_cons]
    by_cases e : x = n
    · subst e
      have hk : k = .cell ∨ k = .free := by simpa [List.lookup] using h
      by_cases c : (k == NameKind.free && env.scope.kind == .function && env.kindOf x == some .cell) = true
      · rw [if_pos c]
        left
        simp [List.lookup]
      · rw [if_neg c]
        rcases hk with rfl | rfl
        · left; simp [List.lookup]
        · right; simp [List.lookup]
    · have b : (x == n) = false := by simpa using e
      have h' : r.lookup x = some .cell ∨ r.lookup x = some .free := by simpa [List.lookup, b] using h
      have q := ih h'
      by_cases c : (k == NameKind.free && env.scope.kind == .function && env.kindOf n == some .cell) = true
      · rw [if_pos c]
        simpa [List.lookup, b] using q
      · rw [if_neg c]
        simpa [List.lookup, b] using q
theorem blkOk_re {N : List Str} {sc scope : Scope} {env : Env} {own : List (Str × Nat)} (h : blkC N sc scope own = true) : BlkOk N (relabel sc env) scope own := by
  have q := blkOk_by h
  exact ⟨q.kind, q.uniq, q.ix, fun y hy e => lk_re (q.free y hy e), q.own⟩
end L2
namespace Toy
open PySem L2
/-! ### the words below n of which p holds -/
/-- a row of a table -/
def row (R : List (List Int)) (j : Nat) : List Int := R.getD j []
theorem row_of {R : List (List Int)} {j : Nat} {r : List Int} (h : R[j]? = some r) : row R j = r := by
  unfold row
  rw [List.getD_eq_getElem?_getD, h]
  rfl
theorem at_row {R : List (List Int)} {j : Nat} (h : j < R.length) : R[j]? = some (row R j) := by
  unfold row
  rw [List.getD_eq_getElem?_getD, List.getElem?_eq_getElem h]
  rfl
def CanR (n : Nat) (R : List (List Int)) : Prop := R.length = n ∧ ∀ r ∈ R, Can n r
theorem CanR.row {n : Nat} {R : List (List Int)} (c : CanR n R) {j : Nat} (h : j < n) : Can n (row R j) := c.2 _ (List.mem_of_getElem? (at_row (by rw [c.1]; exact h)))
end Toy
namespace Toy
open PySem L2
abbrev sChSame : Stmt := top 10
theorem RowsL.snoc {G : Hp} {l t : Addr} {o : HO} {ls R r} (h : RowsL G ls R) (nl : ∀ v ∈ ls, v ≠ .ref l) (ht : G t = some (.lst (vI r))) (n : t ≠ l) :
    RowsL (upd G l o) (ls ++ [.ref t]) (R ++ [r]) ∧ ∀ v ∈ ls ++ [V.ref t], v ≠ .ref l := by
  refine ⟨L2.Paired.snoc ⟨t, rfl, by rw [upd_ne n]; exact ht⟩ (PairedIn.map h fun v r hv ⟨t', e, q⟩ => ⟨t', e, ?_⟩), fun v hv => ?_⟩
  · rw [upd_ne fun z => nl v hv (by rw [e, z])]
    exact q
  · rcases List.mem_append.mp hv with hv | hv
    · exact nl v hv
    · rw [List.mem_singleton.mp hv]
      exact fun z => n (V.ref.inj z)
def spChSame (C : Addr) : Sp := fun vs H Q _ => ∃ (p q : Addr) (R W : List (List Int)), vs = [.ref p, .ref q] ∧ Tab C H p R ∧ Tab C H q W ∧ R.length = W.length ∧ Q .non H
section
variable {P : Program} {w : World} {K : PySem.W.Frag} {mg : Str → Option Value} {base : Heap}
theorem scChSame : FnScope ["first", "second"] ["first", "second"] (defScope sChSame) := ⟨rfl, rfl, rfl, by decide +kernel, rfl, by decide +kernel, by decide +kernel⟩
theorem ok_chSame {f C : Addr} {fd : FuncData} (F : Fun K "check_same_size" "check_same_size" sChSame f fd) (T : CT K mg C) : FnOk P w K mg base CX0 1 f fd ["first", "second"] (spChSame C) := by
  refine F.ok scChSame (fun vs H Q E h => ?_) (fun cdv A outer s H vs Q E hr h => ?_)
  · obtain ⟨p, q, R, W, rfl, _⟩ := h
    rfl
  · obtain ⟨p, q, R, W, rfl, hT, hT2, e, k⟩ := h
    obtain ⟨dx, tr, tp, ts, qs, h1, _⟩ := id hT
    obtain ⟨dx2, tr2, tp2, ts2, qs2, h2, _⟩ := id hT2
    refine ⟨_, pss_one (ps_if (pt_cmpR op_ne (pe_fld (pv 0) rfl) (pe_fld (pv 1) rfl) (nomark _)) (pss_one ps_never) pss_nil), ?_⟩
    exact ⟨_, rfl, p, C, dx, _, _, rfl, h1, T.cl, T.nS, tf_size _ _ _, _, rfl, q, C, dx2, _, _, rfl, h2, T.cl, T.nS, tf_size _ _ _, rfl, _, rfl, iteNS (by rw [e]) k⟩
end
end Toy
namespace Toy
open PySem L2
/-- what list(x) asks -/
abbrev rLst (K : PySem.W.Frag) : List V → Hp → VK → Prop := fun xs H Q => ∃ p ys, xs = [.ref p] ∧ (SqL K H p ys ∨ SqT K H p ys) ∧ ∀ l, H l = none → Q (.ref l) (upd H l (.lst ys))
/-- the loop of [list(row) for row in rows] -/
theorem copies {K : PySem.W.Frag} {σ : St} {H1 : Hp} {D l : Addr} {i : Nat} {ls : List V} {R : List (List Int)} {Qd : Hp → Prop} (hσ : i < σ.length) (hD : H1 D = none) (hl : H1 l = some (.lst ls)) (hR : RowsL H1 ls R) (h6 : R.length ≤ 6)
    (hd : ∀ H' ks, Same H1 H' → H' D = some (.lst ks) → RowsL H' ks R → Qd H') :
    ∃ W : Nat → Nat → Hp → Prop, (∃ m, W 0 m (upd H1 D (.lst []))) ∧ ∀ j m H, W j m H →
      ((Itl K l).stop j H ∧ Qd H) ∨ ((Itl K l).go j H ∧ ∃ Nx : Hp → Prop, (∀ H', Nx H' → ∃ m', m' < m ∧ W (j + 1) m' H') ∧ ∀ x H', (Itl K l).yld j H x H' → gName i x (wipe σ [i]) H' fun σ2 H2 => wipe σ2 [i] = wipe σ [i] ∧ tYes σ2 H2 fun b H3 =>
        if b = true then tCB (rLst K) (tCons (tVar i) tNil) σ2 H3 fun y H4 => ∃ acc, H4 D = some (.lst acc) ∧ acc.length < sizeLine ∧ Nx (upd H4 D (.lst (acc ++ [y]))) else Nx H3) := by
  have eL : ls.length = R.length := Paired.length hR
  refine lc_list (K := K) (a := l) (xs := ls) (fun i H' => Same H1 H' ∧ ∃ ks, H' D = some (.lst ks) ∧ RowsL H' ks (R.take i) ∧ ∀ v ∈ ks, v ≠ .ref D) ⟨Same.new hD, [], upd_same, .nil, fun _ h => by cases h⟩ (fun i H' _ ⟨s, _⟩ => SqL.of (s _ _ hl)) ?_ ?_
  · rintro j y H5 hi ⟨s5, ks, hk, hKs, nD2⟩
    obtain ⟨g, hg, t, rfl, ht⟩ := L2.Paired.at (RowsL.same s5 hR) hi
    refine ⟨?_, yesT (iteT ?_)⟩
    · show ((σ.set i none).set i (some (V.ref t))).set i none = σ.set i none
      rw [List.set_set, List.set_set]
    have e : ((σ.set i none).set i (some (V.ref t)))[i]? = some (some (V.ref t)) := by
      rw [List.getElem?_set_self (by rw [List.length_set]; exact hσ)]
    refine ⟨_, e, t, _, rfl, .inl (SqL.of ht), fun u hu => ?_⟩
    have nDu : u ≠ D := (ne_of_none hk hu).symm
    have s6 := Same.new (H := H5) (o := .lst (vI g)) hu
    obtain ⟨z1, z2⟩ := RowsL.snoc (o := .lst (ks ++ [.ref u])) (RowsL.same s6 hKs) nD2 upd_same nDu
    refine ⟨ks, s6 _ _ hk, ?_, Same.updN (s5.trans s6) hD, ks ++ [.ref u], upd_same, ?_, z2⟩
    · rw [Paired.length hKs]
      exact Nat.lt_of_le_of_lt (Nat.le_trans (List.length_take_le' _ _) h6) (by decide)
    · rw [take_more hg]
      exact z1
  · rintro H5 ⟨s5, ks, hk, hKs, nD2⟩
    rw [eL, List.take_length] at hKs
    exact hd H5 ks s5 hk hKs
/-- Table(rows), the rows canonical -/
theorem init_of {K : PySem.W.Frag} {C D : Addr} {H5 : Hp} {ks : List V} {R : List (List Int)} {n : Nat} {E : XK} {Z : Addr → Hp → Prop} (hk : H5 D = some (.lst ks)) (hKs : RowsL H5 ks R) (c : CanR n R) (n1 : 1 ≤ n) (n6 : n ≤ 6)
    (hz : ∀ H6 x, Same H5 H6 → H5 x = none → Tab C H6 x R → Z x H6) : ∀ x dx, H5 x = none → H5 dx = none → dx ≠ x → spInit K C (.ref x :: ([.ref D] ++ [])) (upd (upd H5 dx (.own x)) x (.ins C dx [])) (fun v H2 => v = .non ∧ Z x H2) E := by
  intro x dx hx hdx ndx
  have s6 : Same H5 (upd (upd H5 dx (.own x)) x (.ins C dx [])) := Same.upd (Same.new hdx) (by rw [upd_ne ndx.symm]; exact hx)
  have cl := c.1
  refine ⟨x, dx, D, ks, R, rfl, upd_same, by rw [upd_ne ndx]; exact upd_same, s6 _ _ hk, RowsL.same s6 hKs, by omega, by omega, by rw [cl]; exact can_all c.2 n6, fun H6 k6 hT => ⟨rfl, ?_⟩⟩
  rw [cl, same_rows c.2] at hT
  exact hz H6 x (fun q o e => k6 q o (ne_of_none e hx) (s6 _ _ e)) hx hT
end Toy
namespace Toy
open PySem L2
abbrev sContains : Stmt := inClass sTable 17
abbrev sIs : Stmt := top 26
theorem prs_mem : ∀ {k : Nat} {R : List (List Int)} {p : Int × Int}, p ∈ prs k R ↔ ∃ j : Nat, j < R.length ∧ p.1 = ((k + j : Nat) : Int) ∧ p.2 ∈ row R j
  | k, [], p => by simp [prs]
  | k, r :: R, p => by
    rw [show prs k (r :: R) = r.map (fun x => ((k : Int), x)) ++ prs (k + 1) R from rfl, List.mem_append, prs_mem (k := k + 1)]
    constructor
    · rintro (h | ⟨j, h1, h2, h3⟩)
      · obtain ⟨x, hx, rfl⟩ := List.mem_map.mp h
        exact ⟨0, by simp, by simp, by rw [row_of (r := r) rfl]; exact hx⟩
      · refine ⟨j + 1, by simp; omega, by rw [h2]; congr 1; omega, ?_⟩
        have e : row (r :: R) (j + 1) = row R j := by unfold row; simp
        rw [e]
        exact h3
    · rintro ⟨j, h1, h2, h3⟩
      cases j with
      | zero =>
        left
        rw [row_of (r := r) rfl] at h3
        exact List.mem_map.mpr ⟨p.2, h3, by rw [Nat.add_zero] at h2; rw [← h2]⟩
      | succ j =>
        right
        have e : row (r :: R) (j + 1) = row R j := by unfold row; simp
        rw [e] at h3
        exact ⟨j, by simp at h1; omega, by rw [h2]; congr 1; omega, h3⟩
theorem eqP (a b : Int × Int) : PyData.eqv (.tuple [.int a.1, .int a.2]) (.tuple [.int b.1, .int b.2]) = decide (a = b) := by
  obtain ⟨x, y⟩ := a
  obtain ⟨z, u⟩ := b
  simp [PyData.eqv, PyData.eqvAll]
  rfl
theorem dpP {K : PySem.W.Frag} {H : Hp} {t : Addr} {p : Int × Int} (h : H t = some (.tup (vP p))) : Dp K H (.ref t) (.tuple [.int p.1, .int p.2]) := .tup (SqT.of h) (.cons (.int _) (.cons (.int _) .nil))
theorem shP (a : Int × Int) : SeqAt.shaped (.tuple [.int a.1, .int a.2]) = true := by
  simp [SeqAt.shaped, PyData.canLay0, PyData.canLayAll0, PyData.depth, PyData.depthAll]
def dPs (P : List (Int × Int)) : List PyData := P.map fun p => .tuple [.int p.1, .int p.2]
theorem dpAllP {K : PySem.W.Frag} {H : Hp} : ∀ {qs : List V} {P : List (Int × Int)}, PairsT H qs P → DpAll K H qs (dPs P)
  | _, _, .nil => .nil
  | _, _, .cons ⟨t, e, q⟩ r => .cons (by rw [e]; exact dpP q) (dpAllP r)
theorem lay_dPs : ∀ P : List (Int × Int), PyData.canLayAll0 (dPs P) = true
  | [] => rfl
  | p :: P => by
    show (PyData.canLay0 (.tuple [.int p.1, .int p.2]) && PyData.canLayAll0 (dPs P)) = true
    rw [lay_dPs P]
    rfl
theorem dep_dPs : ∀ P : List (Int × Int), PyData.depthAll (dPs P) ≤ 1
  | [] => by decide
  | p :: P => by
    have ih := dep_dPs P
    show max (PyData.depthAll [.int p.1, .int p.2] + 1) (PyData.depthAll (dPs P)) ≤ 1
    have : PyData.depthAll [PyData.int p.1, PyData.int p.2] = 0 := by simp [PyData.depthAll, PyData.depth]
    rw [this]
    omega
theorem shPs (P : List (Int × Int)) : SeqAt.shaped (.tuple (dPs P)) = true ∧ SeqAt.shaped (.list (dPs P)) = true := by
  have := dep_dPs P
  constructor
  · show (PyData.canLayAll0 (dPs P) && decide (PyData.depthAll (dPs P) + 1 ≤ 64)) = true
    rw [lay_dPs, decide_eq_true (by omega)]
    rfl
  · show (PyData.canLayAll0 (dPs P) && decide (PyData.depthAll (dPs P) + 1 ≤ 64)) = true
    rw [lay_dPs, decide_eq_true (by omega)]
    rfl
theorem any_dPs (p : Int × Int) : ∀ P : List (Int × Int), ((dPs P).any fun z => PyData.eqv z (.tuple [.int p.1, .int p.2])) = decide (p ∈ P)
  | [] => by simp [dPs]
  | q :: P => by
    have ih := any_dPs p P
    show (PyData.eqv (.tuple [.int q.1, .int q.2]) (.tuple [.int p.1, .int p.2]) || (dPs P).any fun z => PyData.eqv z (.tuple [.int p.1, .int p.2])) = _
    rw [ih, eqP]
    by_cases h : q = p
    · subst h
      simp
    · have h' : ¬ p = q := fun z => h z.symm
      simp [h, h']
theorem units65 {A : Around} {k : Nat} (hr : Room k A) : A.units + 65 < cLine := by have := hr.un; omega
def inT (R : List (List Int)) (a b : Int) : Bool := decide ((a, b) ∈ prs 0 R)
theorem inT_iff {R : List (List Int)} {a b : Int} : inT R a b = true ↔ ∃ j : Nat, j < R.length ∧ a = (j : Int) ∧ b ∈ row R j := by
  unfold inT
  rw [decide_eq_true_iff, prs_mem]
  simp
theorem inT_word {R : List (List Int)} {j : Nat} (h : j < R.length) (b : Int) : inT R (j : Int) b = decide (b ∈ row R j) := by
  rw [Bool.eq_iff_iff, inT_iff, decide_eq_true_iff]
  constructor
  · rintro ⟨i, hi, e, hb⟩
    have : i = j := by omega
    subst this
    exact hb
  · exact fun hb => ⟨j, h, rfl, hb⟩
theorem inT_out {R : List (List Int)} {a : Int} (h : ¬ (0 ≤ a ∧ a < (R.length : Int))) (b : Int) : inT R a b = false := by
  cases e : inT R a b with
  | false => rfl
  | true =>
    obtain ⟨j, hj, rfl, _⟩ := inT_iff.mp e
    omega
def spContains (C : Addr) : Sp := fun vs H Q _ => ∃ (p t : Addr) (R : List (List Int)) (a b : Int), vs = [.ref p, .ref t] ∧ Tab C H p R ∧ H t = some (.tup [.int a, .int b]) ∧ Q (.bl (inT R a b)) H
def spIs : Sp := fun vs H Q _ => ∃ x : Bool, vs = [.bl x, .bl x] ∧ Q (.bl true) H
section
variable {P : Program} {w : World} {K : PySem.W.Frag} {mg : Str → Option Value} {base : Heap}
theorem scContains : FnScope ["self", "pair"] ["self", "pair"] (defScope sContains) := ⟨rfl, rfl, rfl, by decide +kernel, rfl, by decide +kernel, by decide +kernel⟩
theorem ok_contains {f C : Addr} {fd : FuncData} (F : Fun K "__contains__" "Table.__contains__" sContains f fd) (S : Gs K mg C) : FnOk P w K mg base CX0 1 f fd ["self", "pair"] (spContains C) := by
  refine F.ok scContains (fun vs H Q E h => ?_) (fun cdv A outer s H vs Q E hr h => ?_)
  · obtain ⟨p, t, R, a, b, rfl, _⟩ := h
    rfl
  · obtain ⟨p, t, R, a, b, rfl, hT, ht, k⟩ := h
    obtain ⟨dx, tr, tp, ts, qs, h1, h2, h3, h4, h5, h6, h7, h8, h9⟩ := id hT
    refine ⟨_, pss_one (ps_ret (pe_cmpR (op_inT (units65 hr)) (pv 1) (pe_fld (pv 0) rfl) (by rfl))), ?_⟩
    refine ⟨_, rfl, _, rfl, p, C, dx, _, _, rfl, h1, S.T.cl, S.T.nP, tf_pairs _ _ _, _, _, dpP (p := (a, b)) ht, .tup (SqT.of h5) (dpAllP h6), shP (a, b), (shPs _).1, ?_⟩
    have e := any_dPs (a, b) (prs 0 R)
    rw [e]
    exact k
theorem scIs : FnScope ["_law_value", "_law_due"] ["_law_value", "_law_due"] (defScope sIs) := ⟨rfl, rfl, rfl, by decide +kernel, rfl, by decide +kernel, by decide +kernel⟩
theorem ok_is {f : Addr} {fd : FuncData} (F : Fun K "_law_is" "_law_is" sIs f fd) : FnOk P w K mg base CX0 1 f fd ["_law_value", "_law_due"] spIs := by
  refine F.ok scIs (fun vs H Q E h => ?_) (fun cdv A outer s H vs Q E hr h => ?_)
  · obtain ⟨x, rfl, _⟩ := h
    rfl
  · obtain ⟨x, rfl, k⟩ := h
    refine ⟨_, pss_cons (ps_if (pt_val (pv 1)) (pss_one (ps_ret (pe_cmpR op_isBl (pv 0) pe_bl (nomark _)))) pss_nil) (pss_one (ps_ret (pe_cmpR op_isBl (pv 0) pe_bl (nomark _)))), ?_⟩
    cases x with
    | true => exact ⟨_, rfl, _, rfl, iteT ⟨_, rfl, _, _, rfl, rfl, k⟩⟩
    | false => exact ⟨_, rfl, _, rfl, iteF ⟨_, rfl, _, _, rfl, rfl, k⟩⟩
end
end Toy
namespace Toy
open PySem L2
abbrev sHolds : Stmt := top 18
abbrev sRight : Stmt := top 27
/-! ### what both say -/
def okBlk (R W : List (List Int)) (t o : Int) (p : Int × Int) : Bool := inT R t p.1 && (inT R p.2 p.1 && !inT W p.2 o)
def lostOk (R W : List (List Int)) (t o : Int) (B : List (Int × Int)) : Bool := inT W t o && (B.all (okBlk R W t o) && (row R t.toNat).all fun m => decide (m ∈ B.map (·.1)))
def spHolds (C : Addr) : Sp := fun vs H Q _ => ∃ (p q t l : Addr) (ls : List V) (R W : List (List Int)) (told out : Int) (B : List (Int × Int)), vs = [.ref p, .ref q, .ref t] ∧ Tab C H p R ∧ Tab C H q W ∧ R.length = W.length ∧
  H t = some (.tup [.int told, .int out, .ref l]) ∧ H l = some (.lst ls) ∧ PairsT H ls B ∧ B.length ≤ 8 ∧ ∀ H', Same H H' → Q (.bl (lostOk R W told out B)) H'
def spRight : Sp := fun vs H Q _ => ∃ (l1 l2 l : Addr) (ls1 ls2 ls : List V) (R W : List (List Int)) (told out : Int) (B : List (Int × Int)), vs = [.ref l1, .ref l2, .int told, .int out, .ref l] ∧ H l1 = some (.lst ls1) ∧ RowsL H ls1 R ∧ H l2 = some (.lst ls2) ∧ RowsL H ls2 W ∧
  R.length = W.length ∧ (∀ r ∈ R, r.length ≤ 6) ∧ H l = some (.lst ls) ∧ PairsT H ls B ∧ B.length ≤ 8 ∧ ∀ H', Same H H' → Q (.bl (lostOk R W told out B)) H'
theorem row_word {R : List (List Int)} {x : Int} (h0 : 0 ≤ x) (h1 : x < (R.length : Int)) : ∃ j : Nat, x = (j : Int) ∧ j < R.length := by
  obtain ⟨j, rfl⟩ := Int.eq_ofNat_of_zero_le h0
  exact ⟨j, rfl, by omega⟩
section
variable {P : Program} {w : World} {K : PySem.W.Frag} {mg : Str → Option Value} {base : Heap}
abbrev NH : List Str := ["first", "whole", "paper", "told", "out", "blocks", "mid", "other", "blocked", "_"]
theorem scHolds : FnScope NH ["first", "whole", "paper"] (defScope sHolds) := ⟨rfl, rfl, rfl, by decide +kernel, rfl, by decide +kernel, by decide +kernel⟩
theorem ok_holds {f C c g z : Addr} {fd fdC fdG fdZ : FuncData} (F : Fun K "lost_holds" "lost_holds" sHolds f fd) (Gs : Gs K mg C) (FZ : Fun K "check_same_size" "check_same_size" sChSame z fdZ) (mZ : mg "check_same_size" = some (.ref z)) (bZ : Binds K fdZ ["first", "second"] [])
    (FC : Fun K "__contains__" "Table.__contains__" sContains c fdC) (mC : PySem.W.findIn K (.ref C) "__contains__" = some (some (.ref c))) (mC2 : PySem.W.isFn K (.ref c) = true) (bC : Binds K fdC ["self", "pair"] [])
    (FG : Fun K "__getitem__" "Table.__getitem__" sGetitem g fdG) (mG : PySem.W.findIn K (.ref C) "__getitem__" = some (some (.ref g))) (mGf : PySem.W.fnIn K g = true) (mG2 : PySem.W.isFn K (.ref g) = true) (bG : Binds K fdG ["self", "word"] []) :
    FnOk P w K mg base CX0 5 f fd ["first", "whole", "paper"] (spHolds C) := by
  have B := Gs.B
  refine F.ok scHolds (fun vs H Q E h => ?_) (fun cdv A outer s H vs Q E hr h => ?_)
  · obtain ⟨p, q, t, l, ls, R, W, told, out, Bs, rfl, _⟩ := h
    rfl
  · obtain ⟨p, q, t, l, ls, R, W, told, out, Bs, rfl, hT, hT2, eRW, ht, hl, hP, b8, k⟩ := h
    have hr1 : Room 1 _ := hr.mono (by decide)
    obtain ⟨dx, tr, tp, ts, qs, h1, h2, h3, h4, h5, h6, h7, h8, h9⟩ := id hT
    obtain ⟨dx', tr', tp', ts', qs', g1, g2, g3, g4, g5, g6, g7, g8, g9⟩ := id hT2
    refine ⟨_, pss_cons (ps_expr (pe_call (ok_chSame FZ Gs.T) hr1 rfl mZ FZ.kp bZ .nil pass0 (pa_cons (pv 0) (pa_cons (pv 1) pa_nil))))
      (pss_cons (ps_asg (pv 2) (pg_tup (by rfl) (pgs_cons (pg_name (i := 3) scHolds.nd rfl (Or.inl rfl)) (pgs_cons (pg_name (i := 4) scHolds.nd rfl (Or.inl rfl)) (pgs_cons (pg_name (i := 5) scHolds.nd rfl (Or.inl rfl)) pgs_nil)))))
      (pss_cons (ps_if (pt_cmpR (op_notInO (ok_contains FC Gs) hr1 bC pass0 mC mC2) (pe_tup (pa_cons (pv 3) (pa_cons (pv 4) pa_nil))) (pv 1) (by rfl)) (pss_one (ps_ret pe_bl)) pss_nil)
      (pss_cons (ps_for PassesOwn.never rfl (pi_list (pv 5)) (pg_tup (by rfl) (pgs_cons (pg_name (i := 6) scHolds.nd rfl (Or.inl rfl)) (pgs_cons (pg_name (i := 7) scHolds.nd rfl (Or.inl rfl)) pgs_nil))) (pss_one (ps_if (PW.pt (pw_or (pt_cmpR (op_notInO (ok_contains FC Gs) hr1 bC pass0 mC mC2) (pe_tup (pa_cons (pv 3) (pa_cons (pv 6) pa_nil))) (pv 0) (by rfl)) (pw_or (pt_cmpR (op_notInO (ok_contains FC Gs) hr1 bC pass0 mC mC2) (pe_tup (pa_cons (pv 7) (pa_cons (pv 6) pa_nil))) (pv 0) (by rfl)) (pw_or1 (pt_cmpR (op_inO (ok_contains FC Gs) hr1 bC pass0 mC mC2) (pe_tup (pa_cons (pv 7) (pa_cons (pv 4) pa_nil))) (pv 1) (by rfl)))))) (pss_one (ps_ret pe_bl)) pss_nil)))
      (pss_cons (ps_set (i := 8) scHolds.nd rfl (Or.inr rfl) (pe_lc (own := [("mid", 6), ("_", 9)]) (g := (gTup K 2 (gCons (gName 6) (gCons (gName 9) gNil)))) (tt := tYes) (te := (tVar 6)) rfl scHolds.nd (pi_list (pv 5)) (blkOk_by (own := [("mid", 6), ("_", 9)]) (N := NH) (sc := defScope sHolds) (by decide +kernel)) (fun _ _ _ _ _ => (pg_tup (by rfl) (pgs_cons (pg_name (i := 6) scHolds.nd rfl (Or.inl rfl)) (pgs_cons (pg_name (i := 9) scHolds.nd rfl (Or.inl rfl)) pgs_nil)))) (fun _ _ _ _ _ => pts_nil) (fun _ _ _ _ _ => (pv 6))))
      (pss_one (ps_ret (pe_callB (cr_all rfl) (by rfl) B.all (by decide +kernel) (pa_cons (pe_lc (own := [("mid", 6)]) (g := (gName 6)) (tt := tYes) (te := (tOp (rIn K false) (tVar 6) (tVar 8))) rfl scHolds.nd (pi_list (pe_ixOwn (ok_getitem FG Gs) hr bG pass0 mG mGf mG2 (pv 0) (pv 3))) (blkOk_by (own := [("mid", 6)]) (N := NH) (sc := defScope sHolds) (by decide +kernel)) (fun _ _ _ _ _ => (pg_name (i := 6) scHolds.nd rfl (Or.inl rfl))) (fun _ _ _ _ _ => pts_nil) (fun _ _ _ _ _ => (pe_cmpR op_in_seq (pv 6) (pv 8) (by rfl)))) pa_nil)))))))), ?_⟩
    refine ⟨_, rfl, _, rfl, p, q, R, W, rfl, hT, hT2, eRW, ?_⟩
    refine ⟨_, rfl, t, _, rfl, SqT.of ht, rfl, _, _, rfl, _, _, rfl, _, _, rfl, rfl, ?_⟩
    refine ⟨_, rfl, _, rfl, (by show 2 ≤ sizeLine; decide), fun u hu => ?_⟩
    have s0 := Same.new (H := H) (o := .tup [.int told, .int out]) hu
    refine ⟨_, rfl, q, dx', _, rfl, s0 _ _ g1, q, u, W, told, out, rfl, hT2.same s0, upd_same, _, rfl, _, rfl, ?_⟩
    generalize upd H u (.tup [.int told, .int out]) = H0 at s0
    by_cases c0 : inT W told out = true
    case neg =>
      have c0' : inT W told out = false := by simpa using c0
      rw [c0']
      refine iteT ?_
      have e : lostOk R W told out Bs = false := by unfold lostOk; rw [c0']; rfl
      have z := k H0 s0
      rw [e] at z
      exact z
    rw [c0]
    refine iteF ?_
    have lB : ls.length = Bs.length := Paired.length hP
    refine ⟨_, rfl, l, rfl, ⟨_, SqL.of (s0 _ _ hl)⟩, for_list (K := K) (a := l) (xs := ls) (fun i σ H' => Same H H' ∧ (Bs.take i).all (okBlk R W told out) = true ∧ ∃ v6 v7, σ = [some (.ref p), some (.ref q), some (.ref t), some (.int told), some (.int out), some (.ref l), v6, v7, none, none])
      ⟨s0, by simp, none, none, rfl⟩ (fun i σ H' _ ⟨s, _⟩ => SqL.of (s _ _ hl)) ?_ ?_⟩
    · rintro i y σ H1 hi ⟨s1, hall, v6, v7, rfl⟩
      obtain ⟨⟨m, x⟩, hb, tt, rfl, htt⟩ := L2.Paired.at (PairsT.same s1 hP) hi
      refine ⟨tt, _, rfl, SqT.of htt, rfl, _, _, rfl, _, _, rfl, rfl, ?_⟩
      have bad : okBlk R W told out (m, x) = false → ∀ H', Same H H' → Q (.bl false) H' := fun e H' s => by
        have e2 : lostOk R W told out Bs = false := by
          unfold lostOk
          have : Bs.all (okBlk R W told out) = false := by
            cases h : Bs.all (okBlk R W told out) with
            | false => rfl
            | true =>
              have := List.all_eq_true.mp h (m, x) (List.mem_of_getElem? hb)
              rw [e] at this
              cases this
          rw [this]
          simp
        have z := k H' s
        rw [e2] at z
        exact z
      refine ⟨_, rfl, _, rfl, (by show 2 ≤ sizeLine; decide), fun u1 hu1 => ?_⟩
      have s2 := Same.new (H := H1) (o := .tup [.int told, .int m]) hu1
      have s02 := s1.trans s2
      refine ⟨_, rfl, p, dx, _, rfl, s02 _ _ h1, p, u1, R, told, m, rfl, hT.same s02, upd_same, _, rfl, _, rfl, ?_⟩
      generalize upd H1 u1 (.tup [.int told, .int m]) = H2 at s2 s02
      by_cases c1 : inT R told m = true
      case neg =>
        have c1' : inT R told m = false := by simpa using c1
        rw [c1']
        exact iteT (iteT (bad (by unfold okBlk; rw [c1']; rfl) _ s02))
      rw [c1]
      refine iteF ?_
      refine ⟨_, rfl, _, rfl, (by show 2 ≤ sizeLine; decide), fun u2 hu2 => ?_⟩
      have s3 := Same.new (H := H2) (o := .tup [.int x, .int m]) hu2
      have s03 := s02.trans s3
      refine ⟨_, rfl, p, dx, _, rfl, s03 _ _ h1, p, u2, R, x, m, rfl, hT.same s03, upd_same, _, rfl, _, rfl, ?_⟩
      generalize upd H2 u2 (.tup [.int x, .int m]) = H3 at s3 s03
      by_cases c2 : inT R x m = true
      case neg =>
        have c2' : inT R x m = false := by simpa using c2
        rw [c2']
        exact iteT (iteT (bad (by unfold okBlk; rw [c2']; simp) _ s03))
      rw [c2]
      refine iteF ?_
      refine ⟨_, rfl, _, rfl, (by show 2 ≤ sizeLine; decide), fun u3 hu3 => ?_⟩
      have s4 := Same.new (H := H3) (o := .tup [.int x, .int out]) hu3
      have s04 := s03.trans s4
      refine ⟨_, rfl, q, dx', _, rfl, s04 _ _ g1, q, u3, W, x, out, rfl, hT2.same s04, upd_same, _, rfl, _, rfl, ?_⟩
      generalize upd H3 u3 (.tup [.int x, .int out]) = H4 at s4 s04
      by_cases c3 : inT W x out = true
      · rw [c3]
        exact iteT (bad (by unfold okBlk; rw [c3]; simp) _ s04)
      have c3' : inT W x out = false := by simpa using c3
      rw [c3']
      refine iteF ⟨s04, ?_, _, _, rfl⟩
      rw [take_more hb, List.all_append, hall]
      simp [okBlk, c1, c2, c3']
    · rintro σ H1 ⟨s1, hall, v6, v7, rfl⟩
      rw [lB, List.take_length] at hall
      refine ⟨_, rfl, l, rfl, ⟨_, SqL.of (s1 _ _ hl)⟩, fun D hD => ?_⟩
      refine lc_list (K := K) (a := l) (xs := ls) (fun i H' => Same H1 H' ∧ H' D = some (.lst (vI ((Bs.take i).map (·.1))))) ⟨Same.new hD, upd_same⟩ (fun i H' _ ⟨s, _⟩ => SqL.of (s _ _ (s1 _ _ hl))) ?_ ?_
      · rintro i y H2 hi ⟨s2, hd⟩
        obtain ⟨⟨m, x⟩, hb, tt, rfl, htt⟩ := L2.Paired.at (PairsT.same (s1.trans s2) hP) hi
        refine ⟨tt, _, rfl, SqT.of htt, rfl, _, _, rfl, _, _, rfl, rfl, ?_⟩
        refine ⟨rfl, yesT (iteT ?_)⟩
        refine ⟨_, rfl, _, hd, ?_, Same.updN s2 hD, ?_⟩
        · rw [vI_len, List.length_map]
          exact Nat.lt_of_le_of_lt (Nat.le_trans (List.length_take_le' _ _) b8) (by decide)
        · rw [upd_same, take_more hb, List.map_append]
          unfold vI
          rw [List.map_append]
          rfl
      · rintro H2 ⟨s2, hd⟩
        rw [lB, List.take_length] at hd
        have s02 := s1.trans s2
        obtain ⟨j, hj, rfl, hjo⟩ := inT_iff.mp c0
        have hx : R[j]? = some (row R j) := at_row (by omega)
        refine ⟨_, rfl, _, rfl, p, dx, _, rfl, s02 _ _ h1, p, R, j, row R j, rfl, hT.same s02, hx, fun H3 d s3 d0 hd3 => ?_⟩
        refine ⟨d, rfl, ⟨_, SqL.of hd3⟩, fun D2 hD2 => ?_⟩
        refine lc_list (K := K) (a := d) (xs := vI (row R j)) (fun i H' => Same H3 H' ∧ H' D2 = some (.lst (((row R j).take i).map fun m => V.bl (decide (m ∈ Bs.map (·.1)))))) ⟨Same.new hD2, upd_same⟩ (fun i H' _ ⟨s, _⟩ => SqL.of (s _ _ hd3)) ?_ ?_
        · rintro i y H4 hi ⟨s4, hd4⟩
          obtain ⟨m, hm, rfl⟩ := vI_at hi
          refine ⟨rfl, yesT (iteT ?_)⟩
          refine ⟨_, rfl, _, rfl, D, _, rfl, .inl (SqL.of ((s3.trans s4) _ _ hd)), rfl, flat_vI _, ?_⟩
          refine ⟨_, hd4, ?_, Same.updN s4 hD2, ?_⟩
          · rw [List.length_map]
            have := h9 _ (List.mem_of_getElem? hx)
            exact Nat.lt_of_le_of_lt (Nat.le_trans (List.length_take_le' _ _) this) (by decide)
          · rw [upd_same, take_more hm, List.map_append, if_neg Bool.false_ne_true, inV_vI]
            rfl
        · rintro H4 ⟨s4, hd4⟩
          rw [vI_len, List.take_length] at hd4
          refine ⟨D2, (row R j).map (fun m => decide (m ∈ Bs.map (·.1))), rfl, SqL.of (by rw [hd4, List.map_map]; rfl), ?_⟩
          have e : lostOk R W (j : Int) out Bs = ((row R j).map (fun m => decide (m ∈ Bs.map (·.1)))).all id := by
            unfold lostOk
            rw [c0, hall, List.all_map, Int.toNat_natCast]
            rfl
          rw [← e]
          exact k H4 (s02.trans (s3.trans s4))
abbrev NR : List Str := ["_law_first", "_law_whole", "_law_told", "_law_out", "_law_blocks", "_law_pair", "_law_mid"]
theorem scRight : FnScope NR ["_law_first", "_law_whole", "_law_told", "_law_out", "_law_blocks"] (defScope sRight) := ⟨rfl, rfl, rfl, by decide +kernel, rfl, by decide +kernel, by decide +kernel⟩
theorem ok_right {f : Addr} {fd : FuncData} (F : Fun K "_law_right" "_law_right" sRight f fd) (B : Bt mg) : FnOk P w K mg base CX0 1 f fd ["_law_first", "_law_whole", "_law_told", "_law_out", "_law_blocks"] spRight := by
  refine F.ok scRight (fun vs H Q E h => ?_) (fun cdv A outer s H vs Q E hr h => ?_)
  · obtain ⟨l1, l2, l, ls1, ls2, ls, R, W, told, out, Bs, rfl, _⟩ := h
    rfl
  · obtain ⟨l1, l2, l, ls1, ls2, ls, R, W, told, out, Bs, rfl, q1, r1, q2, r2, eRW, r6, hl, hP, b8, k⟩ := h
    refine ⟨_, pss_cons (ps_if (PW.pt (pw_or (pt_not (pt_chain op_le op_lt pe_int (pv 2) (pe_callB call_len_seq (by rfl) B.len PySem.boot_len (pa_cons (pv 0) pa_nil)))) (pw_or1 (pt_cmpR op_notIn_seq (pv 3) (pe_ix ix_list (pv 1) (pv 2) (fun _ _ => rfl)) (by rfl))))) (pss_one (ps_ret pe_bl)) pss_nil)
      (pss_cons (ps_for PassesOwn.never rfl (pi_list (pv 4)) (pg_name (i := 5) scRight.nd rfl (Or.inl rfl)) (pss_cons (ps_if (PW.pt (pw_or (pt_cmpR op_notIn_seq (pe_ix ix_tup (pv 5) pe_int (fun _ _ => rfl)) (pe_ix ix_list (pv 0) (pv 2) (fun _ _ => rfl)) (by rfl)) (pw_or1 (pt_not (pt_chain op_le op_lt pe_int (pe_ix ix_tup (pv 5) pe_int (fun _ _ => rfl)) (pe_callB call_len_seq (by rfl) B.len PySem.boot_len (pa_cons (pv 0) pa_nil))))))) (pss_one (ps_ret pe_bl)) pss_nil)
      (pss_one (ps_if (PW.pt (pw_or (pt_cmpR op_notIn_seq (pe_ix ix_tup (pv 5) pe_int (fun _ _ => rfl)) (pe_ix ix_list (pv 0) (pe_ix ix_tup (pv 5) pe_int (fun _ _ => rfl)) (fun _ _ => rfl)) (by rfl)) (pw_or1 (pt_cmpR op_in_seq (pv 3) (pe_ix ix_list (pv 1) (pe_ix ix_tup (pv 5) pe_int (fun _ _ => rfl)) (fun _ _ => rfl)) (by rfl))))) (pss_one (ps_ret pe_bl)) pss_nil))))
      (pss_one (ps_ret (pe_cmpR op_eq (pe_callB call_len_seq (by rfl) B.len PySem.boot_len (pa_cons (pe_lc (own := [("_law_mid", 6)]) (g := (gName 6)) (tt := (tTest (tOp (rIn K true) (tVar 6) (tLc (iList K (tVar 4)) (gName 5) tYes (tOp (rIxT K) (tVar 5) (tC (.int 0))) [5])))) (te := (tVar 6)) rfl scRight.nd (pi_list (pe_ix ix_list (pv 0) (pv 2) (fun _ _ => rfl))) (blkOk_by (own := [("_law_mid", 6)]) (N := NR) (sc := defScope sRight) (by decide +kernel)) (fun _ _ _ _ _ => (pg_name (i := 6) scRight.nd rfl (Or.inl rfl))) (fun _ _ _ _ _ => pts_one (pt_cmpR op_notIn_seq (pv 6) (pe_lc (own := [("_law_pair", 5)]) (g := (gName 5)) (tt := tYes) (te := (tOp (rIxT K) (tVar 5) (tC (.int 0)))) rfl scRight.nd (pi_list (pv 4)) (blkOk_re (N := NR) (by decide +kernel)) (fun _ _ _ _ _ => (pg_name (i := 5) scRight.nd rfl (Or.inl rfl))) (fun _ _ _ _ _ => pts_nil) (fun _ _ _ _ _ => (pe_ix ix_tup (pv 5) pe_int (fun _ _ => rfl)))) (by rfl))) (fun _ _ _ _ _ => (pv 6))) pa_nil)) pe_int (nomark _))))), ?_⟩
    have e1 : ls1.length = R.length := Paired.length r1
    have lB : ls.length = Bs.length := Paired.length hP
    have no : lostOk R W told out Bs = false → ∀ H', Same H H' → Q (.bl false) H' := fun e H' s => by
      have z := k H' s
      rw [e] at z
      exact z
    -- is told a word?
    have outW : ¬ (0 ≤ told ∧ told < (R.length : Int)) → lostOk R W told out Bs = false := fun h => by
      unfold lostOk
      rw [inT_out (by rw [← eRW]; exact h)]
      rfl
    refine ⟨_, rfl, _, _, rfl, rfl, _, rfl, ?_⟩
    by_cases c0 : (0 : Int) ≤ told
    case neg =>
      rw [decide_eq_false c0]
      exact iteF ⟨_, rfl, iteT (iteT (no (outW fun h => c0 h.1) _ (Same.refl _)))⟩
    rw [decide_eq_true c0]
    refine iteT ⟨_, rfl, l1, _, rfl, .inl (SqL.of q1), _, _, rfl, rfl, _, rfl, ?_⟩
    rw [e1]
    by_cases c1 : told < (R.length : Int)
    case neg =>
      rw [decide_eq_false c1]
      exact iteT (iteT (no (outW fun h => c1 h.2) _ (Same.refl _)))
    rw [decide_eq_true c1]
    obtain ⟨j, rfl, hj⟩ := row_word c0 c1
    refine iteF ?_
    obtain ⟨u1, a1, t1, rfl, y1⟩ := L2.Paired.at2 r1 (at_row hj)
    obtain ⟨u2, a2, t2, rfl, y2⟩ := L2.Paired.at2 r2 (at_row (by omega : j < W.length))
    refine ⟨_, rfl, _, rfl, _, rfl, l2, _, _, _, rfl, rfl, SqL.of q2, atI_nat a2, t2, _, rfl, .inl (SqL.of y2), rfl, flat_vI _, _, rfl, ?_⟩
    rw [if_pos rfl, inV_vI]
    have eW : inT W (j : Int) out = decide (out ∈ row W j) := inT_word (by omega) _
    by_cases c2 : out ∈ row W j
    case neg =>
      rw [decide_eq_false c2]
      exact iteT (no (by unfold lostOk; rw [eW, decide_eq_false c2]; rfl) _ (Same.refl _))
    rw [decide_eq_true c2]
    refine iteF ?_
    have eR : ∀ m, inT R (j : Int) m = decide (m ∈ row R j) := fun m => inT_word hj m
    refine ⟨_, rfl, l, rfl, ⟨_, SqL.of hl⟩, for_list (K := K) (a := l) (xs := ls) (fun i σ H' => H' = H ∧ (Bs.take i).all (okBlk R W j out) = true ∧ ∃ v, σ = [some (.ref l1), some (.ref l2), some (.int (j : Int)), some (.int out), some (.ref l), v, none])
      ⟨rfl, by simp, none, rfl⟩ (fun i σ H' _ ⟨e, _⟩ => by rw [e]; exact SqL.of hl) ?_ ?_⟩
    · rintro i y σ H1 hi ⟨rfl, hall, v, rfl⟩
      obtain ⟨⟨m, x⟩, hb, tt, rfl, htt⟩ := L2.Paired.at hP hi
      have bad : okBlk R W j out (m, x) = false → ∀ H', Same H1 H' → Q (.bl false) H' := fun e => no (by
          unfold lostOk
          have : Bs.all (okBlk R W j out) = false := by
            cases h : Bs.all (okBlk R W j out) with
            | false => rfl
            | true =>
              have := List.all_eq_true.mp h (m, x) (List.mem_of_getElem? hb)
              rw [e] at this
              cases this
          rw [this]
          simp)
      have at0 : atI (vP (m, x)) 0 = some (.int m) := rfl
      have at1 : atI (vP (m, x)) 1 = some (.int x) := rfl
      refine ⟨_, rfl, tt, _, 0, _, rfl, rfl, SqT.of htt, at0, _, rfl, _, rfl, l1, _, _, _, rfl, rfl, SqL.of q1, atI_nat a1, t1, _, rfl, .inl (SqL.of y1), rfl, flat_vI _, _, rfl, ?_⟩
      rw [if_pos rfl, inV_vI]
      by_cases d1 : m ∈ row R j
      case neg =>
        rw [decide_eq_false d1]
        exact iteT (iteT (bad (by unfold okBlk; rw [eR, decide_eq_false d1]; rfl) _ (Same.refl _)))
      rw [decide_eq_true d1]
      refine iteF ?_
      have outX : ¬ (0 ≤ x ∧ x < (R.length : Int)) → okBlk R W j out (m, x) = false := fun h => by
        unfold okBlk
        rw [inT_out h]
        simp
      refine ⟨_, rfl, tt, _, 1, _, rfl, rfl, SqT.of htt, at1, _, _, rfl, rfl, _, rfl, ?_⟩
      by_cases d2 : (0 : Int) ≤ x
      case neg =>
        rw [decide_eq_false d2]
        exact iteF ⟨_, rfl, iteT (bad (outX fun h => d2 h.1) _ (Same.refl _))⟩
      rw [decide_eq_true d2]
      refine iteT ⟨_, rfl, l1, _, rfl, .inl (SqL.of q1), _, _, rfl, rfl, _, rfl, ?_⟩
      rw [e1]
      by_cases d3 : x < (R.length : Int)
      case neg =>
        rw [decide_eq_false d3]
        exact iteT (bad (outX fun h => d3 h.2) _ (Same.refl _))
      rw [decide_eq_true d3]
      refine iteF ?_
      obtain ⟨i2, rfl, hi2⟩ := row_word d2 d3
      obtain ⟨u3, a3, t3, rfl, y3⟩ := L2.Paired.at2 r1 (at_row hi2)
      obtain ⟨u4, a4, t4, rfl, y4⟩ := L2.Paired.at2 r2 (at_row (by omega : i2 < W.length))
      have at0 : atI (vP (m, (i2 : Int))) 0 = some (.int m) := rfl
      have at1 : atI (vP (m, (i2 : Int))) 1 = some (.int i2) := rfl
      refine ⟨_, rfl, tt, _, 0, _, rfl, rfl, SqT.of htt, at0, _, rfl, _, rfl, tt, _, 1, _, rfl, rfl, SqT.of htt, at1, l1, _, _, _, rfl, rfl, SqL.of q1, atI_nat a3, t3, _, rfl, .inl (SqL.of y3), rfl, flat_vI _, _, rfl, ?_⟩
      rw [if_pos rfl, inV_vI]
      by_cases d4 : m ∈ row R i2
      case neg =>
        rw [decide_eq_false d4]
        exact iteT (iteT (bad (by unfold okBlk; rw [inT_word (j := i2) hi2, decide_eq_false d4]; simp) _ (Same.refl _)))
      rw [decide_eq_true d4]
      refine iteF ?_
      refine ⟨_, rfl, _, rfl, _, rfl, tt, _, 1, _, rfl, rfl, SqT.of htt, at1, l2, _, _, _, rfl, rfl, SqL.of q2, atI_nat a4, t4, _, rfl, .inl (SqL.of y4), rfl, flat_vI _, _, rfl, ?_⟩
      rw [if_neg Bool.false_ne_true, inV_vI]
      by_cases d5 : out ∈ row W i2
      · rw [decide_eq_true d5]
        exact iteT (bad (by unfold okBlk; rw [inT_word (R := W) (by omega : i2 < W.length), decide_eq_true d5]; simp) _ (Same.refl _))
      rw [decide_eq_false d5]
      refine iteF ⟨rfl, ?_, _, rfl⟩
      rw [take_more hb, List.all_append, hall]
      simp [okBlk, eR, inT_word (R := R) hi2, inT_word (R := W) (by omega : i2 < W.length), d1, d4, d5]
    · rintro σ H1 ⟨rfl, hall, v, rfl⟩
      rw [lB, List.take_length] at hall
      refine ⟨_, rfl, _, rfl, l1, _, _, _, rfl, rfl, SqL.of q1, atI_nat a1, t1, rfl, ⟨_, SqL.of y1⟩, fun D hD => ?_⟩
      refine lc_list (K := K) (a := t1) (xs := vI (row R j)) (fun i H' => Same H1 H' ∧ H' D = some (.lst (vI (((row R j).take i).filter fun m => !decide (m ∈ Bs.map (·.1)))))) ⟨Same.new hD, upd_same⟩ (fun i H' _ ⟨s, _⟩ => SqL.of (s _ _ y1)) ?_ ?_
      · rintro i y H2 hi ⟨s2, hd⟩
        obtain ⟨m, hm, rfl⟩ := vI_at hi
        refine ⟨rfl, ?_⟩
        refine ⟨_, rfl, _, rfl, l, rfl, ⟨_, SqL.of (s2 _ _ hl)⟩, fun D2 hD2 => ?_⟩
        refine lc_list (K := K) (a := l) (xs := ls) (fun i H' => Same H2 H' ∧ H' D2 = some (.lst (vI ((Bs.take i).map (·.1))))) ⟨Same.new hD2, upd_same⟩ (fun i H' _ ⟨s, _⟩ => SqL.of (s _ _ (s2 _ _ hl))) ?_ ?_
        · rintro e y H3 he ⟨s3, hd3⟩
          obtain ⟨⟨m3, x3⟩, hb, tt, rfl, htt⟩ := L2.Paired.at (PairsT.same (s2.trans s3) hP) he
          refine ⟨rfl, yesT (iteT ?_)⟩
          have at0 : atI (vP (m3, x3)) 0 = some (.int m3) := rfl
          refine ⟨_, rfl, tt, _, 0, _, rfl, rfl, SqT.of htt, at0, ?_⟩
          refine ⟨_, hd3, ?_, Same.updN s3 hD2, ?_⟩
          · rw [vI_len, List.length_map]
            exact Nat.lt_of_le_of_lt (Nat.le_trans (List.length_take_le' _ _) b8) (by decide)
          · rw [upd_same, take_more hb, List.map_append]
            unfold vI
            rw [List.map_append]
            rfl
        · rintro H3 ⟨s3, hd3⟩
          rw [lB, List.take_length] at hd3
          refine ⟨D2, _, rfl, .inl (SqL.of hd3), rfl, flat_vI _, _, rfl, ?_⟩
          rw [if_pos rfl, inV_vI, take_more hm, List.filter_append]
          by_cases c : m ∈ Bs.map (·.1)
          · rw [decide_eq_true c]
            refine iteF ⟨s2.trans s3, ?_⟩
            rw [List.filter_cons_of_neg (by rw [decide_eq_true c]; decide), List.filter_nil, List.append_nil]
            exact s3 _ _ hd
          · rw [decide_eq_false c]
            refine iteT ?_
            refine ⟨_, rfl, _, s3 _ _ hd, ?_, Same.updN (s2.trans s3) hD, ?_⟩
            · rw [vI_len]
              have := r6 _ (List.mem_of_getElem? (at_row hj))
              exact Nat.lt_of_le_of_lt (Nat.le_trans (List.length_filter_le _ _) (Nat.le_trans (List.length_take_le' _ _) this)) (by decide)
            · rw [upd_same, List.filter_cons_of_pos (by rw [decide_eq_false c]; decide), List.filter_nil]
              unfold vI
              rw [List.map_append]
              rfl
      · rintro H2 ⟨s2, hd⟩
        rw [vI_len, List.take_length] at hd
        refine ⟨D, _, rfl, .inl (SqL.of hd), rfl, ?_⟩
        have e : lostOk R W (j : Int) out Bs = decide (V.int ((vI ((row R j).filter fun m => !decide (m ∈ Bs.map (·.1)))).length : Nat) = V.int 0) := by
          unfold lostOk
          rw [eW, decide_eq_true c2, hall, Int.toNat_natCast, vI_len, Bool.true_and, Bool.true_and, Bool.eq_iff_iff, decide_eq_true_iff, List.all_eq_true]
          constructor
          · intro h
            have : ((row R j).filter fun m => !decide (m ∈ Bs.map (·.1))) = [] := List.filter_eq_nil_iff.mpr fun m hm => by have := h m hm; simpa using this
            rw [this]
            rfl
          · intro h m hm
            have h0 : ((row R j).filter fun m => !decide (m ∈ Bs.map (·.1))).length = 0 := by
              have := V.int.inj h
              omega
            have := List.filter_eq_nil_iff.mp (List.length_eq_zero_iff.mp h0) m hm
            simpa using this
        rw [← e]
        exact k H2 s2
end
end Toy
namespace Toy
open PySem L2
theorem PairsT.off {H : Hp} {b : Addr} {o : List V} {qs : List V} {P : List (Int × Int)} (hb : H b = some (.lst o)) (h : PairsT H qs P) : PairsT (Toy.off b H) qs P :=
  L2.Paired.mapP h fun _ _ ⟨t, e, q⟩ => ⟨t, e, by rw [off_ne (ne_of q hb (fun z => nomatch z))]; exact q⟩
theorem Paired.rev {α β : Type} {F : α → β → Prop} : ∀ {xs : List α} {ys : List β}, Paired F xs ys → Paired F xs.reverse ys.reverse
  | _, _, .nil => .nil
  | _, _, .cons r t => by
    rw [List.reverse_cons, List.reverse_cons]
    exact L2.Paired.snoc r (Paired.rev t)
/-- the list of pairs in any order, one of them perhaps twice -/
def spMixedP : Sp := fun vs H Q _ => ∃ (b c l : Addr) (ls : List V) (B : List (Int × Int)), vs = [.ref b, .ref l] ∧ BoxAt H b c ∧ off b H l = some (.lst ls) ∧ PairsT (off b H) ls B ∧ B.length ≤ 7 ∧
  ∀ H' g gs B', BoxAt H' b c → Same (off b H) (off b H') → off b H g = none → off b H' g = some (.lst gs) → PairsT (off b H') gs B' → B'.length ≤ 8 → Q (.ref g) H'
section
variable {P : Program} {w : World} {K : PySem.W.Frag} {mg : Str → Option Value} {base : Heap}
theorem scMixed : FnScope ["_law_box_here", "_law_words_here", "_law_given"] ["_law_box_here", "_law_words_here"] (defScope sMixed) := ⟨rfl, rfl, rfl, by decide +kernel, rfl, by decide +kernel, by decide +kernel⟩
theorem ok_mixedP {f : Addr} {fd : FuncData} (F : Fun K "_law_mixed" "_law_mixed" sMixed f fd) (S : Lt K mg) : FnOk P w K mg base CX0 2 f fd ["_law_box_here", "_law_words_here"] spMixedP := by
  obtain ⟨fT, fdT, FT, mT, bT⟩ := S.take
  have B := S.B
  refine F.ok scMixed (fun vs H Q E h => ?_) (fun cdv A outer s H vs Q E hr h => ?_)
  · obtain ⟨b, c, l, ls, Bs, rfl, _⟩ := h
    rfl
  · obtain ⟨b, c, l, ls, Bs, rfl, hb, hl, hP, b7, k⟩ := h
    have hr1 : Room 1 _ := hr.mono (by decide)
    refine ⟨_, pss_cons (ps_set (i := 2) scMixed.nd rfl (Or.inl rfl) (pe_callTy call_list_of (by rfl) B.list (by decide +kernel) (pa_cons (pv 1) pa_nil)))
      (C8.pss_cut (ps_if (pt_cmpR op_eq (pe_call (ok_take FT B) hr1 rfl mT FT.kp bT .nil pass0 (pa_cons (pv 0) (pa_cons pe_int pa_nil))) pe_int (nomark _)) (pss_one (ps_expr (pe_bm0 PySem.F.plainAttrs_list PySem.F.slot_list_reverse PySem.F.type_list_reverse mt_reverse (pv 2)))) pss_nil)
      (pss_cons (ps_if (PW.pt (pw_and (pt_cmpR (op_neD hr.units) (pv 2) (pe_lst pa_nil) (nomark _)) (pw_and1 (pt_cmpR op_eq (pe_call (ok_take FT B) hr1 rfl mT FT.kp bT .nil pass0 (pa_cons (pv 0) (pa_cons pe_int pa_nil))) pe_int (nomark _))))) (pss_one (ps_expr (pe_bm PySem.F.plainAttrs_list PySem.F.slot_list_append PySem.F.type_list_append mt_append (pv 2) (pa_cons (pe_ix ix_list (pv 2) (pe_call (ok_take FT B) hr1 rfl mT FT.kp bT .nil pass0 (pa_cons (pv 0) (pa_cons (pe_callB call_len_seq (by rfl) B.len PySem.boot_len (pa_cons (pv 2) pa_nil)) pa_nil))) (fun _ _ => rfl)) pa_nil)))) pss_nil) (pss_one (ps_ret (pv 2))))), ?_⟩
    refine ⟨_, rfl, l, _, rfl, .inl (SqL.of (off_le _ _ hl)), fun g hg => ?_⟩
    have gb := hb.ne hg
    have gc := hb.nec hg
    have g0 : off b H g = none := off_free hg
    refine ⟨fun σ' H' => ∃ gs Bg, σ' = [some (.ref b), some (.ref l), some (.ref g)] ∧ BoxAt H' b c ∧ Same (off b H) (off b H') ∧ off b H' g = some (.lst gs) ∧ PairsT (off b H') gs Bg ∧ Bg.length ≤ 7, ?_, ?_⟩
    · have s0 := Same.off (b := b) (Same.new (H := H) (o := .lst ls) hg)
      refine ⟨_, rfl, b, c, 2, rfl, hb.same (Same.new hg), by decide, by decide, fun r H1 hr1 hb1 s1 => ?_⟩
      have hg1 : off b H1 g = some (.lst ls) := s1 _ _ (by rw [off_ne gb]; exact upd_same)
      have hP1 := PairsT.same (s0.trans s1) hP
      refine ⟨rfl, _, rfl, ?_⟩
      refine ite2 (fun _ => ?_) (fun _ => ⟨ls, Bs, rfl, hb1, s0.trans s1, hg1, hP1, b7⟩)
      refine ⟨_, rfl, .inl ⟨rfl, _, SqL.of (off_le _ _ hg1)⟩, g, _, rfl, rfl, off_le _ _ hg1, ?_⟩
      refine ⟨ls.reverse, Bs.reverse, rfl, hb1.upd gb gc, ?_, ?_, ?_, by rw [List.length_reverse]; exact b7⟩
      · rw [off_updN gb]
        exact Same.updN (s0.trans s1) g0
      · rw [off_updN gb, upd_same]
      · rw [off_updN gb]
        exact PairsT.updL (Paired.rev hP1) hg1
    · rintro σ' H1 ⟨gs, Bg, rfl, hb1, s1, hg1, hPg, el⟩
      refine ⟨_, rfl, Nat.zero_le _, fun e he => ?_⟩
      have s2 := Same.new (H := H1) (o := .lst []) he
      have so := Same.off (b := b) s2
      have hgo := so _ _ hg1
      have hPo := PairsT.same so hPg
      have he2 : upd H1 e (.lst []) e = some (.lst []) := upd_same
      have d1 : Dp K (upd H1 e (.lst [])) (.ref g) (.list (dPs Bg)) := .lst (SqL.of (off_le _ _ hgo)) (dpAllP (PairsT.same off_le hPo))
      have d2 : Dp K (upd H1 e (.lst [])) (.ref e) (.list (dPs [])) := .lst (SqL.of he2) .nil
      refine ⟨_, _, d1, d2, (shPs Bg).2, (shPs []).2, _, rfl, ?_⟩
      have so2 := s1.trans so
      by_cases h0 : Bg = []
      · subst h0
        refine iteF (iteF ?_)
        exact ⟨_, rfl, k _ g gs [] (hb1.same s2) so2 g0 hgo hPo (by decide)⟩
      · have ne : PyData.eqv (.list (dPs Bg)) (.list (dPs [])) = false := by
          cases Bg with
          | nil => exact absurd rfl h0
          | cons x r => rfl
        rw [ne]
        refine iteT ?_
        refine ⟨_, rfl, b, c, 3, rfl, hb1.same s2, by decide, by decide, fun r H3 hr3 hb3 s3 => ?_⟩
        have hg3 := s3 _ _ hgo
        have hP3 := PairsT.same s3 hPo
        refine ⟨rfl, _, rfl, ?_⟩
        refine ite2 (fun _ => ?_) (fun _ => ⟨_, rfl, k _ g gs Bg hb3 (so2.trans s3) g0 hg3 hP3 (by omega)⟩)
        have hl0 : 0 < Bg.length := List.length_pos_iff.mpr h0
        have lg : gs.length = Bg.length := Paired.length hPg
        refine ⟨_, rfl, .inl ⟨rfl, _, SqL.of (off_le _ _ hg3)⟩, _, rfl, _, rfl, _, rfl, g, _, rfl, .inl (SqL.of (off_le _ _ hg3)), ?_⟩
        refine ⟨b, c, (gs.length : Int), rfl, hb3, by omega, by omega, fun j H4 hj hb4 s4 => ?_⟩
        have hg4 := s4 _ _ hg3
        have hP4 := PairsT.same s4 hP3
        obtain ⟨x, hx⟩ : ∃ x, Bg[j]? = some x := ⟨_, List.getElem?_eq_getElem (by omega)⟩
        obtain ⟨v, hv, t, rfl, ht⟩ := L2.Paired.at2 hP4 hx
        refine ⟨g, _, _, _, rfl, rfl, SqL.of (off_le _ _ hg4), atI_nat hv, g, _, _, rfl, rfl, off_le _ _ hg4, ?_, ?_⟩
        · exact Nat.lt_of_le_of_lt (by omega : gs.length ≤ 7) (by decide)
        · refine ⟨_, rfl, k _ g (gs ++ [.ref t]) (Bg ++ [x]) (hb4.upd gb gc) ?_ g0 ?_ ?_ ?_⟩
          · rw [off_updN gb]
            exact Same.updN (so2.trans (s3.trans s4)) g0
          · rw [off_updN gb, upd_same]
          · rw [off_updN gb]
            exact PairsT.updL (L2.Paired.snoc ⟨t, rfl, ht⟩ hP4) hg4
          · rw [List.length_append]
            show Bg.length + 1 ≤ 8
            omega
end
end Toy
namespace Toy
open PySem L2
abbrev sFar : Stmt := top 24
/-- an integer that is no word -/
def spFar : Sp := fun vs H Q _ => ∃ (b c : Addr) (n : Nat), vs = [.ref b, .int n] ∧ BoxAt H b c ∧ 1 ≤ n ∧ n ≤ 6 ∧ ∀ (x : Int) H', isW n x = false → x.natAbs ≤ 1000010 → BoxAt H' b c → Same (off b H) (off b H') → Q (.int x) H'
section
variable {P : Program} {w : World} {K : PySem.W.Frag} {mg : Str → Option Value} {base : Heap}
theorem scFar : FnScope ["_law_box_here", "_law_n"] ["_law_box_here", "_law_n"] (defScope sFar) := ⟨rfl, rfl, rfl, by decide +kernel, rfl, by decide +kernel, by decide +kernel⟩
theorem ok_far {f : Addr} {fd : FuncData} (F : Fun K "_law_far" "_law_far" sFar f fd) (S : Lt K mg) : FnOk P w K mg base CX0 2 f fd ["_law_box_here", "_law_n"] spFar := by
  obtain ⟨fT, fdT, FT, mT, bT⟩ := S.take
  refine F.ok scFar (fun vs H Q E h => ?_) (fun cdv A outer s H vs Q E hr h => ?_)
  · obtain ⟨b, c, n, rfl, _⟩ := h
    rfl
  · obtain ⟨b, c, n, rfl, hb, n1, n6, k⟩ := h
    refine ⟨_, pss_cons (ps_if (pt_cmpR op_eq (pe_call (ok_take FT S.B) hr rfl mT FT.kp bT .nil pass0 (pa_cons (pv 0) (pa_cons pe_int pa_nil))) pe_int (nomark _))
        (pss_one (ps_ret (pe_op op_sub (pe_un un_neg pe_int) (pe_call (ok_take FT S.B) hr rfl mT FT.kp bT .nil pass0 (pa_cons (pv 0) (pa_cons (pe_op op_pow pe_int pe_int) pa_nil)))))) pss_nil)
      (pss_one (ps_ret (pe_op op_add (pv 1) (pe_call (ok_take FT S.B) hr rfl mT FT.kp bT .nil pass0 (pa_cons (pv 0) (pa_cons (pe_op op_pow pe_int pe_int) pa_nil)))))), ?_⟩
    have far : ∀ {x : Int}, (x < 0 ∨ (n : Int) ≤ x) → isW n x = false := fun {x} h => by
      unfold isW
      rcases h with h | h
      · rw [decide_eq_false (by omega : ¬ (0 : Int) ≤ x)]; rfl
      · rw [decide_eq_false (by omega : ¬ x < (n : Int)), Bool.and_false]
    refine ⟨_, rfl, b, c, 2, rfl, hb, by decide, by decide, fun r H1 hr1 hb1 s1 => ?_⟩
    refine ⟨rfl, _, rfl, ite2 (fun _ => ?_) (fun _ => ?_)⟩
    · refine ⟨_, rfl, _, rfl, _, _, rfl, rfl, ⟨by decide, by decide, by decide⟩, b, c, _, rfl, hb1, by decide, by decide, fun r2 H2 hr2 hb2 s2 => ?_⟩
      have hr2' : (r2 : Int) < 1000000 := hr2
      exact ⟨_, _, rfl, rfl, k _ H2 (far (by omega)) (by omega) hb2 (s1.trans s2)⟩
    · refine ⟨_, rfl, _, rfl, _, _, rfl, rfl, ⟨by decide, by decide, by decide⟩, b, c, _, rfl, hb1, by decide, by decide, fun r2 H2 hr2 hb2 s2 => ?_⟩
      have hr2' : (r2 : Int) < 1000000 := hr2
      exact ⟨_, _, rfl, rfl, k _ H2 (far (by omega)) (by omega) hb2 (s1.trans s2)⟩
end
end Toy
namespace Toy
open PySem L2
abbrev sLaw : Stmt := top 28
/-- the box and two lists of rows -/
structure D2 (b c l1 l2 : Addr) (ls1 ls2 : List V) (R W : List (List Int)) (H : Hp) : Prop where
  bx : BoxAt H b c
  q1 : off b H l1 = some (.lst ls1)
  r1 : RowsL (off b H) ls1 R
  q2 : off b H l2 = some (.lst ls2)
  r2 : RowsL (off b H) ls2 W
theorem D2.go {b c l1 l2 : Addr} {ls1 ls2 : List V} {R W : List (List Int)} {H H' : Hp} (d : D2 b c l1 l2 ls1 ls2 R W H) (hb : BoxAt H' b c) (s : Same (off b H) (off b H')) : D2 b c l1 l2 ls1 ls2 R W H' :=
  ⟨hb, s _ _ d.q1, RowsL.same s d.r1, s _ _ d.q2, RowsL.same s d.r2⟩
theorem D2.same {b c l1 l2 : Addr} {ls1 ls2 : List V} {R W : List (List Int)} {H H' : Hp} (d : D2 b c l1 l2 ls1 ls2 R W H) (s : Same H H') : D2 b c l1 l2 ls1 ls2 R W H' := d.go (d.bx.same s) (Same.off s)
theorem Paired.erase {α β : Type} {F : α → β → Prop} : ∀ {xs : List α} {ys : List β} (i : Nat), Paired F xs ys → Paired F (xs.eraseIdx i) (ys.eraseIdx i)
  | _, _, _, .nil => .nil
  | _, _, 0, .cons _ t => t
  | _, _, i + 1, .cons r t => .cons r (Paired.erase i t)
theorem seqIx_nat {j n : Nat} (h : j < n) : seqIndex? (j : Int) n = some j := by
  unfold seqIndex?
  simp only [if_neg (show ¬ (j : Int) < 0 by omega)]
  rw [if_pos (by simp; omega), Int.toNat_natCast]
/-- the list of pairs at d -/
def LP (b d : Addr) (m : Nat) (H : Hp) : Prop := ∃ qs Bs, off b H d = some (.lst qs) ∧ PairsT (off b H) qs Bs ∧ Bs.length ≤ m
theorem LP.same {b d : Addr} {m : Nat} {H H' : Hp} (s : Same (off b H) (off b H')) (h : LP b d m H) : LP b d m H' := by
  obtain ⟨qs, Bs, h1, h2, h3⟩ := h
  exact ⟨qs, Bs, s _ _ h1, PairsT.same s h2, h3⟩
section
variable {P : Program} {w : World} {K : PySem.W.Frag} {mg : Str → Option Value} {base : Heap}
structure Al (K : PySem.W.Frag) (mg : Str → Option Value) (C : Addr) : Prop where
  L : Lt K mg
  G : Gs K mg C
  init : ∃ f fd, Fun K "__init__" "Table.__init__" sInit f fd ∧ Mk K C f ∧ Binds K fd ["self", "rows"] []
  chSame : ∃ f fd, Fun K "check_same_size" "check_same_size" sChSame f fd ∧ mg "check_same_size" = some (.ref f) ∧ Binds K fd ["first", "second"] []
  cont : ∃ f fd, Fun K "__contains__" "Table.__contains__" sContains f fd ∧ (PySem.W.findIn K (.ref C) "__contains__" = some (some (.ref f)) ∧ PySem.W.isFn K (.ref f) = true) ∧ Binds K fd ["self", "pair"] []
  item : ∃ f fd, Fun K "__getitem__" "Table.__getitem__" sGetitem f fd ∧ (PySem.W.findIn K (.ref C) "__getitem__" = some (some (.ref f)) ∧ PySem.W.fnIn K f = true ∧ PySem.W.isFn K (.ref f) = true) ∧ Binds K fd ["self", "word"] []
  holds : ∃ f fd, Fun K "lost_holds" "lost_holds" sHolds f fd ∧ mg "lost_holds" = some (.ref f) ∧ Binds K fd ["first", "whole", "paper"] []
  box : ∃ f fd, Fun K "_law_box" "_law_box" sBox f fd ∧ mg "_law_box" = some (.ref f) ∧ Binds K fd ["_law_script"] []
  rowsL : ∃ f fd, Fun K "_law_rows" "_law_rows" sRowsL f fd ∧ mg "_law_rows" = some (.ref f) ∧ Binds K fd ["_law_box_here", "_law_n", "_law_least"] []
  far : ∃ f fd, Fun K "_law_far" "_law_far" sFar f fd ∧ mg "_law_far" = some (.ref f) ∧ Binds K fd ["_law_box_here", "_law_n"] []
  mixed : ∃ f fd, Fun K "_law_mixed" "_law_mixed" sMixed f fd ∧ mg "_law_mixed" = some (.ref f) ∧ Binds K fd ["_law_box_here", "_law_words_here"] []
  is : ∃ f fd, Fun K "_law_is" "_law_is" sIs f fd ∧ mg "_law_is" = some (.ref f) ∧ Binds K fd ["_law_value", "_law_due"] []
  right : ∃ f fd, Fun K "_law_right" "_law_right" sRight f fd ∧ mg "_law_right" = some (.ref f) ∧ Binds K fd ["_law_first", "_law_whole", "_law_told", "_law_out", "_law_blocks"] []
abbrev NL : List Str := ["_law_script", "_law_box_here", "_law_n", "_law_first", "_law_whole", "_law_told", "_law_out", "_law_blocks", "_law_mid", "_law_others", "_law_other", "_law_kind", "_law_kept", "_law_one", "_law_every", "_law_due", "_law_turn", "_law_row"]
theorem scLaw : FnScope NL ["_law_script"] (defScope sLaw) := ⟨rfl, rfl, rfl, by decide +kernel, rfl, by decide +kernel, by decide +kernel⟩
theorem ok_law {f C : Addr} {fd : FuncData} (F : Fun K "law" "law" sLaw f fd) (S : Al K mg C) : FnOk P w K mg base CX0 6 f fd ["_law_script"] (spLaw K) := by
  obtain ⟨fT, fdT, FT, mT, bT⟩ := S.L.take
  obtain ⟨fN, fdN, FN, MN, bN⟩ := S.init
  obtain ⟨fZ, fdZ, FZ, mZ, bZ⟩ := S.chSame
  obtain ⟨fC, fdC, FC, ⟨mC, mC2⟩, bC⟩ := S.cont
  obtain ⟨fG, fdG, FG, ⟨mG, mGf, mG2⟩, bG⟩ := S.item
  obtain ⟨fH, fdH, FH, mH, bH⟩ := S.holds
  obtain ⟨fB, fdB, FB, mB, bB⟩ := S.box
  obtain ⟨fRL, fdRL, FRL, mRL, bRL⟩ := S.rowsL
  obtain ⟨fFa, fdFa, FFa, mFa, bFa⟩ := S.far
  obtain ⟨fMx, fdMx, FMx, mMx, bMx⟩ := S.mixed
  obtain ⟨fI, fdI, FI, mI, bI⟩ := S.is
  obtain ⟨fRi, fdRi, FRi, mRi, bRi⟩ := S.right
  have B := S.L.B
  have Gs := S.G
  refine F.ok scLaw (fun vs H Q E h => ?_) (fun cdv A outer s H vs Q E hr h => ?_)
  · obtain ⟨a, ns, rfl, _⟩ := h
    rfl
  · obtain ⟨a, ns, rfl, hS, hlen, k⟩ := h
    have hr1 : Room 1 _ := hr.mono (by decide)
    have hr2 : Room 2 _ := hr.mono (by decide)
    have hr3 : Room 3 _ := hr.mono (by decide)
    have hr4 : Room 4 _ := hr.mono (by decide)
    refine ⟨_, pss_cons (ps_set (i := 1) scLaw.nd rfl (Or.inl rfl) (pe_call (ok_box FB B) hr1 rfl mB FB.kp bB .nil pass0 (pa_cons (pv 0) pa_nil)))
      (pss_cons (ps_set (i := 2) scLaw.nd rfl (Or.inl rfl) (pe_op op_add pe_int (pe_call (ok_take FT B) hr1 rfl mT FT.kp bT .nil pass0 (pa_cons (pv 1) (pa_cons pe_int pa_nil)))))
      (pss_cons (ps_set (i := 3) scLaw.nd rfl (Or.inr rfl) (pe_call (ok_rowsL FRL S.L) hr3 rfl mRL FRL.kp bRL .nil pass0 (pa_cons (pv 1) (pa_cons (pv 2) (pa_cons pe_int pa_nil)))))
      (pss_cons (ps_set (i := 4) scLaw.nd rfl (Or.inr rfl) (pe_call (ok_rowsL FRL S.L) hr3 rfl mRL FRL.kp bRL .nil pass0 (pa_cons (pv 1) (pa_cons (pv 2) (pa_cons pe_int pa_nil)))))
      (pss_cons (ps_set (i := 5) scLaw.nd rfl (Or.inl rfl) (pe_call (ok_take FT B) hr1 rfl mT FT.kp bT .nil pass0 (pa_cons (pv 1) (pa_cons (pv 2) pa_nil))))
      (pss_cons (ps_set (i := 6) scLaw.nd rfl (Or.inr rfl) (pe_call (ok_take FT B) hr1 rfl mT FT.kp bT .nil pass0 (pa_cons (pv 1) (pa_cons (pv 2) pa_nil))))
      (C8.pss_cut (ps_if (PW.pt (pw_and (pt_cmpR (op_neD hr.units) (pe_ix ix_list (pv 4) (pv 5) (fun _ _ => rfl)) (pe_lst pa_nil) (nomark _)) (pw_and1 (pt_cmpR op_gt (pe_call (ok_take FT B) hr1 rfl mT FT.kp bT .nil pass0 (pa_cons (pv 1) (pa_cons pe_int pa_nil))) pe_int (nomark _))))) (pss_one (ps_set (i := 6) scLaw.nd rfl (Or.inr rfl) (pe_ix ix_list (pe_ix ix_list (pv 4) (pv 5) (fun _ _ => rfl)) (pe_call (ok_take FT B) hr1 rfl mT FT.kp bT .nil pass0 (pa_cons (pv 1) (pa_cons (pe_callB call_len_seq (by rfl) B.len PySem.boot_len (pa_cons (pe_ix ix_list (pv 4) (pv 5) (fun _ _ => rfl)) pa_nil)) pa_nil))) (fun _ _ => rfl)))) pss_nil)
      (pss_cons (ps_set (i := 7) scLaw.nd rfl (Or.inl rfl) (pe_lst pa_nil))
      (pss_cons (ps_for PassesOwn.never rfl (pi_list (pe_ix ix_list (pv 3) (pv 5) (fun _ _ => rfl))) (pg_name (i := 8) scLaw.nd rfl (Or.inr rfl)) (pss_cons (ps_setLc (i := 9) (own := [("_law_one", 13)]) (g := (gName 13)) (tt := (tAnd (tTest (tOp (rIn K false) (tVar 8) (tOp (rIxL K) (tVar 3) (tVar 13)))) (tTest (tOp (rIn K true) (tVar 6) (tOp (rIxL K) (tVar 4) (tVar 13)))))) (te := (tVar 13)) rfl scLaw.nd rfl rfl (sw_true rfl rfl rfl (by decide +kernel)) (pi_range1 (by rfl) B.range (pa_cons (pv 2) pa_nil)) (blkOk_by (own := [("_law_one", 13)]) (N := NL) (sc := defScope sLaw) (by decide +kernel)) (fun _ _ _ _ _ => (pg_name (i := 13) scLaw.nd rfl (Or.inl rfl))) (fun _ _ _ _ _ => pts_one (PW.pt (pw_and (pt_cmpR op_in_seq (pv 8) (pe_ix ix_list (pv 3) (pv 13) (fun _ _ => rfl)) (by rfl)) (pw_and1 (pt_cmpR op_notIn_seq (pv 6) (pe_ix ix_list (pv 4) (pv 13) (fun _ _ => rfl)) (by rfl)))))) (fun _ _ _ _ _ => (pv 13)))
      (pss_cons (ps_set (i := 10) scLaw.nd rfl (Or.inl rfl) (pe_op op_sub (pe_call (ok_take FT B) hr1 rfl mT FT.kp bT .nil pass0 (pa_cons (pv 1) (pa_cons (pe_op op_add (pv 2) pe_int) pa_nil))) pe_int))
      (C8.pss_cut (ps_if (PW.pt (pw_and (pt_cmpR (op_neD hr.units) (pv 9) (pe_lst pa_nil) (nomark _)) (pw_and1 (pt_cmpR op_gt (pe_call (ok_take FT B) hr1 rfl mT FT.kp bT .nil pass0 (pa_cons (pv 1) (pa_cons pe_int pa_nil))) pe_int (nomark _))))) (pss_one (ps_set (i := 10) scLaw.nd rfl (Or.inl rfl) (pe_ix ix_list (pv 9) (pe_call (ok_take FT B) hr1 rfl mT FT.kp bT .nil pass0 (pa_cons (pv 1) (pa_cons (pe_callB call_len_seq (by rfl) B.len PySem.boot_len (pa_cons (pv 9) pa_nil)) pa_nil))) (fun _ _ => rfl)))) pss_nil)
      (pss_one (ps_expr (pe_bm PySem.F.plainAttrs_list PySem.F.slot_list_append PySem.F.type_list_append mt_append (pv 7) (pa_cons (pe_tup (pa_cons (pv 8) (pa_cons (pv 10) pa_nil))) pa_nil))))))))
      (pss_cons (ps_set (i := 11) scLaw.nd rfl (Or.inl rfl) (pe_call (ok_take FT B) hr1 rfl mT FT.kp bT .nil pass0 (pa_cons (pv 1) (pa_cons pe_int pa_nil))))
      (C8.pss_cut (ps_if (PW.pt (pw_and (pt_cmpR op_eq (pv 11) pe_int (nomark _)) (pw_and1 (pt_cmpR (op_neD hr.units) (pv 7) (pe_lst pa_nil) (nomark _))))) (pss_one (ps_expr (pe_bm PySem.F.plainAttrs_list PySem.F.slot_list_pop PySem.F.type_list_pop mt_popAt (pv 7) (pa_cons (pe_call (ok_take FT B) hr1 rfl mT FT.kp bT .nil pass0 (pa_cons (pv 1) (pa_cons (pe_callB call_len_seq (by rfl) B.len PySem.boot_len (pa_cons (pv 7) pa_nil)) pa_nil))) pa_nil)))) pss_nil)
      (C8.pss_cut (ps_if (pt_cmpR op_eq (pv 11) pe_int (nomark _)) (pss_one (ps_expr (pe_bm PySem.F.plainAttrs_list PySem.F.slot_list_append PySem.F.type_list_append mt_append (pv 7) (pa_cons (pe_tup (pa_cons (pe_op op_sub (pe_call (ok_take FT B) hr1 rfl mT FT.kp bT .nil pass0 (pa_cons (pv 1) (pa_cons (pe_op op_add (pv 2) pe_int) pa_nil))) pe_int) (pa_cons (pe_call (ok_take FT B) hr1 rfl mT FT.kp bT .nil pass0 (pa_cons (pv 1) (pa_cons (pv 2) pa_nil))) pa_nil))) pa_nil)))) pss_nil)
      (C8.pss_cut (ps_if (pt_cmpR op_eq (pv 11) pe_int (nomark _)) (pss_one (ps_set (i := 5) scLaw.nd rfl (Or.inl rfl) (pe_call (ok_far FFa S.L) hr2 rfl mFa FFa.kp bFa .nil pass0 (pa_cons (pv 1) (pa_cons (pv 2) pa_nil))))) pss_nil)
      (C8.pss_cut (ps_if (pt_cmpR op_eq (pv 11) pe_int (nomark _)) (pss_one (ps_set (i := 6) scLaw.nd rfl (Or.inr rfl) (pe_call (ok_far FFa S.L) hr2 rfl mFa FFa.kp bFa .nil pass0 (pa_cons (pv 1) (pa_cons (pv 2) pa_nil))))) pss_nil)
      (pss_cons (ps_set (i := 7) scLaw.nd rfl (Or.inl rfl) (pe_call (ok_mixedP FMx S.L) hr2 rfl mMx FMx.kp bMx .nil pass0 (pa_cons (pv 1) (pa_cons (pv 7) pa_nil))))
      (pss_cons (ps_set (i := 12) scLaw.nd rfl (Or.inl rfl) (pe_callTy call_list_of (by rfl) B.list (by decide +kernel) (pa_cons (pv 7) pa_nil)))
      (pss_cons (ps_set (i := 13) scLaw.nd rfl (Or.inl rfl) (pe_make MN (ok_init FN Gs) hr4 rfl Gs.T.mgC bN .nil pass0 (pa_cons (pe_lc (own := [("_law_row", 17)]) (g := (gName 17)) (tt := tYes) (te := (tCB (rLst K) (tCons (tVar 17) tNil))) rfl scLaw.nd (pi_list (pv 3)) (blkOk_by (own := [("_law_row", 17)]) (N := NL) (sc := defScope sLaw) (by decide +kernel)) (fun _ _ _ _ _ => (pg_name (i := 17) scLaw.nd rfl (Or.inl rfl))) (fun _ _ _ _ _ => pts_nil) (fun _ _ _ _ _ => (pe_callTy call_list_of (by rfl) B.list (by decide +kernel) (pa_cons (pv 17) pa_nil)))) pa_nil)))
      (pss_cons (ps_set (i := 14) scLaw.nd rfl (Or.inl rfl) (pe_make MN (ok_init FN Gs) hr4 rfl Gs.T.mgC bN .nil pass0 (pa_cons (pe_lc (own := [("_law_row", 17)]) (g := (gName 17)) (tt := tYes) (te := (tCB (rLst K) (tCons (tVar 17) tNil))) rfl scLaw.nd (pi_list (pv 4)) (blkOk_by (own := [("_law_row", 17)]) (N := NL) (sc := defScope sLaw) (by decide +kernel)) (fun _ _ _ _ _ => (pg_name (i := 17) scLaw.nd rfl (Or.inl rfl))) (fun _ _ _ _ _ => pts_nil) (fun _ _ _ _ _ => (pe_callTy call_list_of (by rfl) B.list (by decide +kernel) (pa_cons (pv 17) pa_nil)))) pa_nil)))
      (pss_cons (ps_set (i := 15) scLaw.nd rfl (Or.inl rfl) (pe_call (ok_right FRi B) hr1 rfl mRi FRi.kp bRi .nil pass0 (pa_cons (pv 3) (pa_cons (pv 4) (pa_cons (pv 5) (pa_cons (pv 6) (pa_cons (pv 12) pa_nil)))))))
      (pss_cons (ps_for PassesOwn.never rfl (pi_range1 (by rfl) B.range (pa_cons pe_int pa_nil)) (pg_name (i := 16) scLaw.nd rfl (Or.inl rfl)) (pss_one (ps_if (PW.pt (pw_or (pt_not (pt_val (pe_call (ok_is FI) hr1 rfl mI FI.kp bI .nil pass0 (pa_cons (pe_call (ok_holds FH Gs FZ mZ bZ FC mC mC2 bC FG mG mGf mG2 bG) hr rfl mH FH.kp bH .nil pass0 (pa_cons (pv 13) (pa_cons (pv 14) (pa_cons (pe_tup (pa_cons (pv 5) (pa_cons (pv 6) (pa_cons (pv 7) pa_nil)))) pa_nil)))) (pa_cons (pv 15) pa_nil))))) (pw_or1 (pt_cmpR (op_neD hr.units) (pv 7) (pv 12) (nomark _))))) (pss_one ps_never) pss_nil))) (pss_one (ps_ret pe_bl))))))))))))))))))))), ?_⟩
    refine ⟨_, rfl, a, ns, rfl, hS, hlen, fun H1 b c s1 hb0 hb1 => ?_⟩
    refine ⟨_, rfl, b, c, 6, rfl, hb1, by decide, by decide, fun r H2 hr2' hb2 s2 => ?_⟩
    refine ⟨_, _, rfl, rfl, ?_⟩
    have en : (1 : Int) + (r : Int) = ((r + 1 : Nat) : Int) := by omega
    have eV : (fun (i j : Int) => V.int (i + j)) 1 (r : Int) = V.int ((r + 1 : Nat) : Int) := congrArg V.int en
    rw [eV]
    have n1 : 1 ≤ r + 1 := by omega
    have n6 : r + 1 ≤ 6 := by omega
    generalize r + 1 = n at n1 n6
    refine ⟨_, rfl, _, rfl, b, c, n, 0, rfl, hb2, n1, n6, by decide, by decide, fun H3 l1 ls1 R hb3 s3 l10 hl1 hR eR hCR => ?_⟩
    refine ⟨_, rfl, _, rfl, b, c, n, 0, rfl, hb3, n1, n6, by decide, by decide, fun H4 l2 ls2 W hb4 s4 l20 hl2 hW eW hCW => ?_⟩
    have cR : CanR n R := ⟨eR, hCR⟩
    have cW : CanR n W := ⟨eW, hCW⟩
    have d4 : D2 b c l1 l2 ls1 ls2 R W H4 := ⟨hb4, s4 _ _ hl1, RowsL.same s4 (RowsN.rows hR), hl2, RowsN.rows hW⟩
    clear hW hR hl1 hl2 s4 s3 hb4 hb3 hb2 hb1 s2 s1
    refine ⟨_, rfl, _, rfl, b, c, (n : Int), rfl, d4.bx, by omega, by omega, fun t H5 ht hb5 s5 => ?_⟩
    have d5 := d4.go hb5 s5
    refine ⟨_, rfl, _, rfl, b, c, (n : Int), rfl, d5.bx, by omega, by omega, fun o H6 ho hb6 s6 => ?_⟩
    have d6 := d5.go hb6 s6
    clear d4 d5 s5 s6 hb5 hb6
    have htn : t < n := by omega
    obtain ⟨u1, g1, t1, rfl, y1⟩ := L2.Paired.at2 d6.r1 (at_row (by omega : t < R.length))
    obtain ⟨u2, g2, t2, rfl, y2⟩ := L2.Paired.at2 d6.r2 (at_row (by omega : t < W.length))
    -- out
    refine ⟨fun σ' H' => ∃ out : Int, σ' = [some (.ref a), some (.ref b), some (.int n), some (.ref l1), some (.ref l2), some (.int t), some (.int out), none, none, none, none, none, none, none, none, none, none, none] ∧ D2 b c l1 l2 ls1 ls2 R W H' ∧ Same (off b H6) (off b H'), ?_, ?_⟩
    · refine ⟨_, rfl, _, rfl, l2, _, _, _, rfl, rfl, SqL.of (off_le _ _ d6.q2), atI_nat g2, Nat.zero_le _, fun e he => ?_⟩
      have se := Same.new (H := H6) (o := .lst []) he
      have d7 := d6.same se
      have y2' := se _ _ (off_le _ _ y2)
      have he2 : upd H6 e (.lst []) e = some (.lst (vI [])) := upd_same
      refine ⟨_, _, dpI (SqL.of y2'), dpI (SqL.of he2), shI _, shI [], _, rfl, ?_⟩
      rw [eqI]
      have soe := Same.off (b := b) se
      generalize upd H6 e (.lst []) = H7 at d7 y2' he2 se soe
      by_cases h0 : row W t = []
      · rw [decide_eq_true h0]
        exact iteF (iteF ⟨_, rfl, d7, soe⟩)
      · rw [decide_eq_false h0]
        refine iteT ?_
        refine ⟨_, rfl, b, c, 4, rfl, d7.bx, by decide, by decide, fun r H8 hr8 hb8 s8 => ?_⟩
        have d8 := d7.go hb8 s8
        refine ⟨_, _, rfl, rfl, _, rfl, ite2 (fun _ => ?_) (fun _ => ⟨_, rfl, d8, soe.trans s8⟩)⟩
        have y8 := (soe.trans s8) _ _ y2
        have l0 : 0 < (row W t).length := List.length_pos_iff.mpr h0
        have l6 := (cW.row htn).len
        refine ⟨_, rfl, _, rfl, l2, _, _, _, rfl, rfl, SqL.of (off_le _ _ d8.q2), atI_nat g2, _, rfl, _, rfl, _, rfl, l2, _, _, _, rfl, rfl, SqL.of (off_le _ _ d8.q2), atI_nat g2, t2, _, rfl, .inl (SqL.of (off_le _ _ y8)), ?_⟩
        rw [vI_len]
        refine ⟨b, c, ((row W t).length : Int), rfl, d8.bx, by omega, by omega, fun j H9 hj hb9 s9 => ?_⟩
        have y9 := s9 _ _ y8
        obtain ⟨x, hx⟩ : ∃ x, (row W t)[j]? = some x := ⟨_, List.getElem?_eq_getElem (by omega)⟩
        have hxv : (vI (row W t))[j]? = some (.int x) := by unfold vI; rw [List.getElem?_map, hx]; rfl
        exact ⟨t2, _, _, _, rfl, rfl, SqL.of (off_le _ _ y9), atI_nat hxv, x, rfl, d8.go hb9 s9, soe.trans (s8.trans s9)⟩
    rintro σ' H7 ⟨out, rfl, d7, s67⟩
    -- blocks
    refine ⟨Nat.zero_le _, fun d hd => ?_⟩
    have db := d7.bx.ne hd
    have dc := d7.bx.nec hd
    have d0 : off b H7 d = none := off_free hd
    have s78 := Same.off (b := b) (Same.new (H := H7) (o := .lst []) hd)
    have d8 := d7.same (Same.new (H := H7) (o := .lst []) hd)
    have hd8 : off b (upd H7 d (.lst [])) d = some (.lst []) := by rw [off_ne db]; exact upd_same
    generalize upd H7 d (.lst []) = H8 at s78 d8 hd8
    have y18 := s78 _ _ (s67 _ _ y1)
    have lr6 := (cR.row htn).len
    refine ⟨_, rfl, _, rfl, l1, _, _, _, rfl, rfl, SqL.of (off_le _ _ d8.q1), atI_nat g1, t1, rfl, ⟨_, SqL.of (off_le _ _ y18)⟩, ?_⟩
    refine for_list (K := K) (a := t1) (xs := vI (row R t)) (fun i σ H' => ∃ v8 v9 v10, σ = [some (.ref a), some (.ref b), some (.int n), some (.ref l1), some (.ref l2), some (.int t), some (.int out), some (.ref d), v8, v9, v10, none, none, none, none, none, none, none] ∧
        D2 b c l1 l2 ls1 ls2 R W H' ∧ Same (off b H7) (off b H') ∧ LP b d i H') ⟨none, none, none, rfl, d8, s78, [], [], hd8, .nil, Nat.zero_le _⟩ (fun i σ H' _ ⟨_, _, _, _, _, s, _⟩ => SqL.of (off_le _ _ (s _ _ (s67 _ _ y1)))) ?_ ?_
    · rintro i y σ H9 hi ⟨v8, v9, v10, rfl, d9, s9, lp9⟩
      obtain ⟨m, hm, rfl⟩ := vI_at hi
      have hi6 : i < 6 := by have := (List.getElem?_eq_some_iff.mp hm).1; omega
      refine ⟨_, rfl, n, rfl, by omega, by omega, fun D hD => ?_⟩
      have Db := d9.bx.ne hD
      refine lc_range (lo := 0) (n := n) (fun e H' => Same H9 H' ∧ ∃ os, H' D = some (.lst (vI os)) ∧ os.length ≤ e) ⟨Same.new hD, [], upd_same, Nat.zero_le _⟩ ?_ ?_
      · rintro e H10 he ⟨s10, os, hd10, lo⟩
        have f0 : (0 : Int) + (e : Int) = (e : Int) := Int.zero_add _
        rw [f0]
        have d10 := d9.same s10
        obtain ⟨u3, g3, t3, rfl, y3⟩ := L2.Paired.at2 d10.r1 (at_row (by omega : e < R.length))
        obtain ⟨u4, g4, t4, rfl, y4⟩ := L2.Paired.at2 d10.r2 (at_row (by omega : e < W.length))
        refine ⟨rfl, ?_⟩
        refine ⟨_, rfl, _, rfl, _, rfl, l1, _, _, _, rfl, rfl, SqL.of (off_le _ _ d10.q1), atI_nat g3, t3, _, rfl, .inl (SqL.of (off_le _ _ y3)), rfl, flat_vI _, _, rfl, ?_⟩
        refine ite2 (fun _ => ?_) (fun _ => iteF ⟨s10, os, hd10, by omega⟩)
        refine ⟨_, rfl, _, rfl, _, rfl, l2, _, _, _, rfl, rfl, SqL.of (off_le _ _ d10.q2), atI_nat g4, t4, _, rfl, .inl (SqL.of (off_le _ _ y4)), rfl, flat_vI _, _, rfl, ?_⟩
        refine ite2 (fun _ => ?_) (fun _ => ⟨s10, os, hd10, by omega⟩)
        refine ⟨_, rfl, _, hd10, ?_, Same.updN s10 hD, os ++ [(e : Int)], ?_, by rw [List.length_append]; show os.length + 1 ≤ e + 1; omega⟩
        · rw [vI_len]
          exact Nat.lt_of_le_of_lt (by omega : os.length ≤ 6) (by decide)
        · rw [upd_same]
          unfold vI
          rw [List.map_append]
          rfl
      · rintro H10 ⟨s10, os, hd10, lo⟩
        have d10 := d9.same s10
        have s710 := s9.trans (Same.off s10)
        have lp10 := lp9.same (Same.off s10)
        have hDo : off b H10 D = some (.lst (vI os)) := by rw [off_ne Db]; exact hd10
        -- other
        refine ⟨_, rfl, _, rfl, _, _, rfl, rfl, b, c, ((n : Int) + 2), rfl, d10.bx, by omega, by omega, fun r H11 hr11 hb11 s11 => ?_⟩
        refine ⟨_, _, rfl, rfl, ?_⟩
        have d11 := d10.go hb11 s11
        have lp11 := lp10.same s11
        have s711 := s710.trans s11
        have hD11 := s11 _ _ hDo
        refine ⟨fun σ' H' => ∃ x : Int, σ' = [some (.ref a), some (.ref b), some (.int n), some (.ref l1), some (.ref l2), some (.int t), some (.int out), some (.ref d), some (.int m), some (.ref D), some (.int x), none, none, none, none, none, none, none] ∧
            D2 b c l1 l2 ls1 ls2 R W H' ∧ Same (off b H7) (off b H') ∧ LP b d i H', ?_, ?_⟩
        · refine ⟨_, rfl, Nat.zero_le _, fun e he => ?_⟩
          have se := Same.new (H := H11) (o := .lst []) he
          have soe := Same.off (b := b) se
          have d12 := d11.same se
          have he2 : upd H11 e (.lst []) e = some (.lst (vI [])) := upd_same
          have hD12 := soe _ _ hD11
          refine ⟨_, _, dpI (SqL.of (off_le _ _ hD12)), dpI (SqL.of he2), shI _, shI [], _, rfl, ?_⟩
          rw [eqI]
          generalize upd H11 e (.lst []) = H12 at se soe d12 he2 hD12
          by_cases h0 : os = []
          · rw [decide_eq_true h0]
            exact iteF (iteF ⟨_, rfl, d12, s711.trans soe, lp11.same soe⟩)
          rw [decide_eq_false h0]
          refine iteT ?_
          refine ⟨_, rfl, b, c, 6, rfl, d12.bx, by decide, by decide, fun r2 H13 hr13 hb13 s13 => ?_⟩
          have d13 := d12.go hb13 s13
          have s713 := (s711.trans soe).trans s13
          have lp13 := (lp11.same soe).same s13
          refine ⟨_, _, rfl, rfl, _, rfl, ite2 (fun _ => ?_) (fun _ => ⟨_, rfl, d13, s713, lp13⟩)⟩
          have hD13 := s13 _ _ hD12
          have l0 : 0 < os.length := List.length_pos_iff.mpr h0
          refine ⟨_, rfl, _, rfl, _, rfl, D, _, rfl, .inl (SqL.of (off_le _ _ hD13)), ?_⟩
          rw [vI_len]
          refine ⟨b, c, (os.length : Int), rfl, d13.bx, by omega, by omega, fun j H14 hj hb14 s14 => ?_⟩
          obtain ⟨x, hx⟩ : ∃ x, os[j]? = some x := ⟨_, List.getElem?_eq_getElem (by omega)⟩
          have hxv : (vI os)[j]? = some (.int x) := by unfold vI; rw [List.getElem?_map, hx]; rfl
          exact ⟨D, _, _, _, rfl, rfl, SqL.of (off_le _ _ (s14 _ _ hD13)), atI_nat hxv, x, rfl, d13.go hb14 s14, s713.trans s14, lp13.same s14⟩
        rintro σ' H12 ⟨x, rfl, d12, s12, qs, Bs, hq, hP, hB⟩
        refine ⟨_, rfl, .inl ⟨rfl, _, SqL.of (off_le _ _ hq)⟩, _, rfl, _, rfl, (by show 2 ≤ sizeLine; decide), fun u hu => ?_⟩
        have sn := Same.new (H := H12) (o := .tup [.int m, .int x]) hu
        have so := Same.off (b := b) sn
        have ub := d12.bx.ne hu
        have hu2 : off b (upd H12 u (.tup [.int m, .int x])) u = some (.tup (vP (m, x))) := by rw [off_ne ub]; exact upd_same
        have d13 := d12.same sn
        have hq3 := so _ _ hq
        have hP3 := PairsT.same so hP
        generalize upd H12 u (.tup [.int m, .int x]) = H13 at sn so hu2 d13 hq3 hP3
        have lq : qs.length = Bs.length := Paired.length hP
        have bx' : BoxAt (upd H13 d (.lst (qs ++ [.ref u]))) b c := d13.bx.upd db dc
        have sd : Same (off b H7) (off b (upd H13 d (.lst (qs ++ [.ref u])))) := by rw [off_updN db]; exact Same.updN (s12.trans so) d0
        refine ⟨d, _, _, rfl, rfl, off_le _ _ hq3, Nat.lt_of_le_of_lt (by omega : qs.length ≤ 6) (by decide), _, _, _, rfl, d7.go bx' sd, sd, qs ++ [.ref u], Bs ++ [(m, x)], ?_, ?_, by rw [List.length_append]; show Bs.length + 1 ≤ i + 1; omega⟩
        · rw [off_updN db, upd_same]
        · rw [off_updN db]
          exact PairsT.updL (L2.Paired.snoc ⟨u, rfl, hu2⟩ hP3) hq3
    rintro σ H9 ⟨v8, v9, v10, rfl, d9, s9, lp9⟩
    rw [vI_len] at lp9
    have lp6 : LP b d 6 H9 := by
      obtain ⟨qs, Bs, h1, h2, h3⟩ := lp9
      exact ⟨qs, Bs, h1, h2, by omega⟩
    clear lp9
    -- kind
    refine ⟨_, rfl, b, c, 7, rfl, d9.bx, by decide, by decide, fun kd H10 hkd hb10 s10 => ?_⟩
    have d10 := d9.go hb10 s10
    have lp10 := lp6.same s10
    have s710 := s9.trans s10
    clear d9 s9 lp6 s10 hb10
    -- kind 1
    refine ⟨fun σ' H' => σ' = [some (.ref a), some (.ref b), some (.int n), some (.ref l1), some (.ref l2), some (.int t), some (.int out), some (.ref d), v8, v9, v10, some (.int kd), none, none, none, none, none, none] ∧
        D2 b c l1 l2 ls1 ls2 R W H' ∧ Same (off b H7) (off b H') ∧ LP b d 6 H', ?_, ?_⟩
    · refine ⟨_, rfl, rfl, _, rfl, ?_⟩
      refine ite2 (fun _ => ?_) (fun _ => iteF ⟨rfl, d10, s710, lp10⟩)
      obtain ⟨qs, Bs, hq, hP, hB⟩ := lp10
      refine ⟨_, rfl, Nat.zero_le _, fun e he => ?_⟩
      have se := Same.new (H := H10) (o := .lst []) he
      have soe := Same.off (b := b) se
      have d11 := d10.same se
      have he2 : upd H10 e (.lst []) e = some (.lst []) := upd_same
      have hq1 := soe _ _ hq
      have hP1 := PairsT.same soe hP
      have dd1 : Dp K (upd H10 e (.lst [])) (.ref d) (.list (dPs Bs)) := .lst (SqL.of (off_le _ _ hq1)) (dpAllP (PairsT.same off_le hP1))
      have dd2 : Dp K (upd H10 e (.lst [])) (.ref e) (.list (dPs [])) := .lst (SqL.of he2) .nil
      refine ⟨_, _, dd1, dd2, (shPs Bs).2, (shPs []).2, _, rfl, ?_⟩
      have s711 := s710.trans soe
      by_cases h0 : Bs = []
      · subst h0
        exact iteF ⟨rfl, d11, s711, qs, [], hq1, hP1, Nat.zero_le _⟩
      have ne : PyData.eqv (.list (dPs Bs)) (.list (dPs [])) = false := by
        cases Bs with
        | nil => exact absurd rfl h0
        | cons x r => rfl
      rw [ne]
      refine iteT ?_
      have l0 : 0 < Bs.length := List.length_pos_iff.mpr h0
      have lq : qs.length = Bs.length := Paired.length hP
      refine ⟨_, rfl, .inl ⟨rfl, _, SqL.of (off_le _ _ hq1)⟩, _, rfl, _, rfl, d, _, rfl, .inl (SqL.of (off_le _ _ hq1)), ?_⟩
      refine ⟨b, c, (qs.length : Int), rfl, d11.bx, by omega, by omega, fun j H12 hj hb12 s12 => ?_⟩
      have hq2 := s12 _ _ hq1
      have hP2 := PairsT.same s12 hP1
      obtain ⟨v, hv⟩ : ∃ v, qs[j]? = some v := ⟨_, List.getElem?_eq_getElem (by omega)⟩
      have bx' : BoxAt (upd H12 d (.lst (qs.eraseIdx j))) b c := hb12.upd db dc
      have sd : Same (off b H7) (off b (upd H12 d (.lst (qs.eraseIdx j)))) := by rw [off_updN db]; exact Same.updN (s711.trans s12) d0
      refine ⟨d, qs, _, j, v, rfl, rfl, off_le _ _ hq2, by omega, by omega, seqIx_nat (by omega), hv, rfl, d7.go bx' sd, sd, qs.eraseIdx j, Bs.eraseIdx j, ?_, ?_, Nat.le_trans (List.length_eraseIdx_le ..) hB⟩
      · rw [off_updN db, upd_same]
      · rw [off_updN db]
        exact PairsT.updL (Paired.erase j hP2) hq2
    rintro σ' H11 ⟨rfl, d11, s711, lp11⟩
    clear d10 lp10 s710
    -- kind 2
    refine ⟨fun σ' H' => σ' = [some (.ref a), some (.ref b), some (.int n), some (.ref l1), some (.ref l2), some (.int t), some (.int out), some (.ref d), v8, v9, v10, some (.int kd), none, none, none, none, none, none] ∧
        D2 b c l1 l2 ls1 ls2 R W H' ∧ Same (off b H7) (off b H') ∧ LP b d 7 H', ?_, ?_⟩
    · obtain ⟨qs, Bs, hq, hP, hB⟩ := lp11
      refine ⟨_, rfl, rfl, _, rfl, ?_⟩
      refine ite2 (fun _ => ?_) (fun _ => ⟨rfl, d11, s711, qs, Bs, hq, hP, by omega⟩)
      refine ⟨_, rfl, .inl ⟨rfl, _, SqL.of (off_le _ _ hq)⟩, _, rfl, _, rfl, _, _, rfl, rfl, b, c, ((n : Int) + 2), rfl, d11.bx, by omega, by omega, fun r H12 hr12 hb12 s12 => ?_⟩
      have d12 := d11.go hb12 s12
      refine ⟨_, _, rfl, rfl, _, rfl, _, rfl, b, c, (n : Int), rfl, d12.bx, by omega, by omega, fun r2 H13 hr13 hb13 s13 => ?_⟩
      have d13 := d12.go hb13 s13
      refine ⟨(by show 2 ≤ sizeLine; decide), fun u hu => ?_⟩
      have sn := Same.new (H := H13) (o := .tup [.int ((r : Int) - 1), .int r2]) hu
      have so := Same.off (b := b) sn
      have ub := d13.bx.ne hu
      have hu2 : off b (upd H13 u (.tup [.int ((r : Int) - 1), .int r2])) u = some (.tup (vP ((r : Int) - 1, (r2 : Int)))) := by rw [off_ne ub]; exact upd_same
      have d14 := d13.same sn
      have s1 := (s12.trans s13).trans so
      have hq3 := s1 _ _ hq
      have hP3 := PairsT.same s1 hP
      generalize upd H13 u (.tup [.int ((r : Int) - 1), .int r2]) = H14 at sn so hu2 d14 hq3 hP3 s1
      have lq : qs.length = Bs.length := Paired.length hP
      have bx' : BoxAt (upd H14 d (.lst (qs ++ [.ref u]))) b c := d14.bx.upd db dc
      have sd : Same (off b H7) (off b (upd H14 d (.lst (qs ++ [.ref u])))) := by rw [off_updN db]; exact Same.updN (s711.trans s1) d0
      refine ⟨d, _, _, rfl, rfl, off_le _ _ hq3, Nat.lt_of_le_of_lt (by omega : qs.length ≤ 6) (by decide), rfl, d7.go bx' sd, sd, qs ++ [.ref u], Bs ++ [((r : Int) - 1, (r2 : Int))], ?_, ?_, by rw [List.length_append]; show Bs.length + 1 ≤ 7; omega⟩
      · rw [off_updN db, upd_same]
      · rw [off_updN db]
        exact PairsT.updL (L2.Paired.snoc ⟨u, rfl, hu2⟩ hP3) hq3
    rintro σ' H12 ⟨rfl, d12, s712, lp12⟩
    clear d11 lp11 s711
    -- kind 3
    refine ⟨fun σ' H' => ∃ told : Int, σ' = [some (.ref a), some (.ref b), some (.int n), some (.ref l1), some (.ref l2), some (.int told), some (.int out), some (.ref d), v8, v9, v10, some (.int kd), none, none, none, none, none, none] ∧
        D2 b c l1 l2 ls1 ls2 R W H' ∧ LP b d 7 H', ?_, ?_⟩
    · refine ⟨_, rfl, rfl, _, rfl, ?_⟩
      refine ite2 (fun _ => ?_) (fun _ => ⟨_, rfl, d12, lp12⟩)
      exact ⟨_, rfl, _, rfl, b, c, n, rfl, d12.bx, n1, n6, fun x H13 _ _ hb13 s13 => ⟨x, rfl, d12.go hb13 s13, lp12.same s13⟩⟩
    rintro σ' H13 ⟨told, rfl, d13, lp13⟩
    clear d12 lp12 s712
    -- kind 4
    refine ⟨fun σ' H' => ∃ out : Int, σ' = [some (.ref a), some (.ref b), some (.int n), some (.ref l1), some (.ref l2), some (.int told), some (.int out), some (.ref d), v8, v9, v10, some (.int kd), none, none, none, none, none, none] ∧
        D2 b c l1 l2 ls1 ls2 R W H' ∧ LP b d 7 H', ?_, ?_⟩
    · refine ⟨_, rfl, rfl, _, rfl, ?_⟩
      refine ite2 (fun _ => ?_) (fun _ => ⟨_, rfl, d13, lp13⟩)
      exact ⟨_, rfl, _, rfl, b, c, n, rfl, d13.bx, n1, n6, fun x H14 _ _ hb14 s14 => ⟨x, rfl, d13.go hb14 s14, lp13.same s14⟩⟩
    rintro σ' H14 ⟨out', rfl, d14, qs, Bs, hq, hP, hB⟩
    clear d13 lp13
    -- blocks, kept
    refine ⟨_, rfl, _, rfl, b, c, d, qs, Bs, rfl, d14.bx, hq, hP, hB, fun H15 g gs B' hb15 s15 g0 hg hPg b8 => ?_⟩
    have d15 := d14.go hb15 s15
    refine ⟨_, rfl, g, _, rfl, .inl (SqL.of (off_le _ _ hg)), fun kp hkp => ?_⟩
    have sk := Same.new (H := H15) (o := .lst gs) hkp
    have p1 := sk _ _ (off_le _ _ d15.q1)
    have p2 := sk _ _ (off_le _ _ d15.q2)
    have R1 := RowsL.same (off_le.trans sk) d15.r1
    have R2 := RowsL.same (off_le.trans sk) d15.r2
    have hg16 := sk _ _ (off_le _ _ hg)
    have hk16 : upd H15 kp (.lst gs) kp = some (.lst gs) := upd_same
    have hP16 := PairsT.same (off_le.trans sk) hPg
    generalize upd H15 kp (.lst gs) = H16 at p1 p2 R1 R2 hg16 hk16 hP16
    clear sk d14 d15 hq hP hPg hg
    -- the two tables
    refine ⟨_, rfl, l1, rfl, ⟨_, SqL.of p1⟩, fun D hD => copies (by show 17 < 18; decide) hD p1 R1 (by omega) fun H17 ks s17 hk hKs => ?_⟩
    refine init_of hk hKs cR n1 n6 fun H18 x1 s18 x10 hT1 => ?_
    have s1618 := s17.trans s18
    refine ⟨_, rfl, l2, rfl, ⟨_, SqL.of (s1618 _ _ p2)⟩, fun D' hD' => copies (by show 17 < 18; decide) hD' (s1618 _ _ p2) (RowsL.same s1618 R2) (by omega) fun H19 ks' s19 hk' hKs' => ?_⟩
    refine init_of hk' hKs' cW n1 n6 fun H20 x2 s20 x20 hT2 => ?_
    have s1820 := s19.trans s20
    have s1620 := s1618.trans s1820
    have T1 := hT1.same s1820
    refine ⟨_, rfl, _, rfl, _, rfl, _, rfl, _, rfl, l1, l2, kp, ls1, ls2, gs, R, W, told, out', B', rfl, s1620 _ _ p1, RowsL.same s1620 R1, s1620 _ _ p2, RowsL.same s1620 R2, by omega, fun r hr => Nat.le_trans (hCR r hr).len n6, s1620 _ _ hk16, PairsT.same s1620 hP16, b8, fun H21 s21 => ?_⟩
    have s1621 := s1620.trans s21
    have T11 := T1.same s21
    have T21 := hT2.same s21
    refine ⟨2, rfl, by decide, by decide, ?_⟩
    refine for_range (lo := 0) (n := 2) (fun i σ H' => Same H21 H' ∧ ∃ v, σ = [some (.ref a), some (.ref b), some (.int n), some (.ref l1), some (.ref l2), some (.int told), some (.int out'), some (.ref g), v8, v9, v10, some (.int kd), some (.ref kp), some (.ref x1), some (.ref x2), some (.bl (lostOk R W told out' B')), v, none])
      ⟨Same.refl _, none, rfl⟩ ?_ ?_
    · rintro i σ H22 hi ⟨s22, v, rfl⟩
      refine ⟨_, rfl, _, rfl, _, rfl, _, rfl, _, rfl, (by show 3 ≤ sizeLine; decide), fun u hu => ?_⟩
      have s23 := Same.new (H := H22) (o := .tup [.int told, .int out', .ref g]) hu
      have st := s22.trans s23
      have sg := s1621.trans st
      refine ⟨x1, x2, u, g, gs, R, W, told, out', B', rfl, T11.same st, T21.same st, by omega, upd_same, sg _ _ hg16, PairsT.same sg hP16, b8, fun H24 s24 => ?_⟩
      have sf := st.trans s24
      have sgf := sg.trans s24
      refine ⟨_, rfl, _, rfl, _, rfl, iteF ?_⟩
      have dd1 : Dp K H24 (.ref g) (.list (dPs B')) := .lst (SqL.of (sgf _ _ hg16)) (dpAllP (PairsT.same sgf hP16))
      have dd2 : Dp K H24 (.ref kp) (.list (dPs B')) := .lst (SqL.of (sgf _ _ hk16)) (dpAllP (PairsT.same sgf hP16))
      refine ⟨_, rfl, _, rfl, _, _, dd1, dd2, (shPs B').2, (shPs B').2, _, rfl, ?_⟩
      rw [SeqAt.eqv_refl _ (SeqAt.canLay_of_shaped (shPs B').2)]
      exact iteF ⟨sf, _, rfl⟩
    · rintro σ H22 ⟨s22, v, rfl⟩
      exact k _
end
end Toy
namespace Toy
open PySem L2
/-! ### What the top has written, the head -/
theorem all_mk {l : PySem.W.OpenLaw} {w : World} {K : PySem.W.Frag} {h : Heap} {mg : Str → Option Value} {fa C : Addr} {tM : Tok} (X : K.In h) (G : h.Ns mainGlobals mg) (hfa : mg "law" = some (.ref fa))
    {f1 : Addr} {od1 an1 : Option Addr} {sl1 : Array (Option Value)} {oc1 kV1 dc1 pm1 cd1 ct1 : Value}
    {f2 : Addr} {od2 an2 : Option Addr} {sl2 : Array (Option Value)} {oc2 kV2 dc2 pm2 cd2 ct2 : Value}
    {f3 : Addr} {od3 an3 : Option Addr} {sl3 : Array (Option Value)} {oc3 kV3 dc3 pm3 cd3 ct3 : Value}
    {f4 : Addr} {od4 an4 : Option Addr} {sl4 : Array (Option Value)} {oc4 kV4 dc4 pm4 cd4 ct4 : Value}
    {f5 : Addr} {od5 an5 : Option Addr} {sl5 : Array (Option Value)} {oc5 kV5 dc5 pm5 cd5 ct5 : Value}
    {f6 : Addr} {od6 an6 : Option Addr} {sl6 : Array (Option Value)} {oc6 kV6 dc6 pm6 cd6 ct6 : Value}
    {f7 : Addr} {od7 an7 : Option Addr} {sl7 : Array (Option Value)} {oc7 kV7 dc7 pm7 cd7 ct7 : Value}
    {f8 : Addr} {od8 an8 : Option Addr} {sl8 : Array (Option Value)} {oc8 kV8 dc8 pm8 cd8 ct8 : Value}
    {f9 : Addr} {od9 an9 : Option Addr} {sl9 : Array (Option Value)} {oc9 kV9 dc9 pm9 cd9 ct9 : Value}
    {f10 : Addr} {od10 an10 : Option Addr} {sl10 : Array (Option Value)} {oc10 kV10 dc10 pm10 cd10 ct10 : Value}
    {f11 : Addr} {od11 an11 : Option Addr} {sl11 : Array (Option Value)} {oc11 kV11 dc11 pm11 cd11 ct11 : Value}
    {f12 : Addr} {od12 an12 : Option Addr} {sl12 : Array (Option Value)} {oc12 kV12 dc12 pm12 cd12 ct12 : Value}
    {f13 : Addr} {od13 an13 : Option Addr} {sl13 : Array (Option Value)} {oc13 kV13 dc13 pm13 cd13 ct13 : Value}
    {f14 : Addr} {od14 an14 : Option Addr} {sl14 : Array (Option Value)} {oc14 kV14 dc14 pm14 cd14 ct14 : Value}
    {f15 : Addr} {od15 an15 : Option Addr} {sl15 : Array (Option Value)} {oc15 kV15 dc15 pm15 cd15 ct15 : Value}
    {f16 : Addr} {od16 an16 : Option Addr} {sl16 : Array (Option Value)} {oc16 kV16 dc16 pm16 cd16 ct16 : Value}
    {f17 : Addr} {od17 an17 : Option Addr} {sl17 : Array (Option Value)} {oc17 kV17 dc17 pm17 cd17 ct17 : Value}
    {f18 : Addr} {od18 an18 : Option Addr} {sl18 : Array (Option Value)} {oc18 kV18 dc18 pm18 cd18 ct18 : Value}
    {f19 : Addr} {od19 an19 : Option Addr} {sl19 : Array (Option Value)} {oc19 kV19 dc19 pm19 cd19 ct19 : Value}
    {f20 : Addr} {od20 an20 : Option Addr} {sl20 : Array (Option Value)} {oc20 kV20 dc20 pm20 cd20 ct20 : Value}
    (aC : PySem.W.nsIn K mainGlobals "Table" = some (some (.ref C)))
    (a1 : PySem.W.nsIn K mainGlobals "is_word" = some (some (.ref f1)))
    (l1 : K.lookup f1 = some ⟨oc1, od1, .func (PySem.W.fnOf "is_word" "is_word" (defArgs sIsWord) (defBody sIsWord) (defScope sIsWord) .none kV1 dc1 pm1 an1 cd1 ct1), sl1⟩)
    (c1 : PySem.W.codeIn K cd1 "is_word" = true)
    (k1 : PySem.W.keepIn K (.ref f1) = true)
    (a2 : PySem.W.nsIn K mainGlobals "all_words" = some (some (.ref f2)))
    (l2 : K.lookup f2 = some ⟨oc2, od2, .func (PySem.W.fnOf "all_words" "all_words" (defArgs sAllWords) (defBody sAllWords) (defScope sAllWords) .none kV2 dc2 pm2 an2 cd2 ct2), sl2⟩)
    (c2 : PySem.W.codeIn K cd2 "all_words" = true)
    (k2 : PySem.W.keepIn K (.ref f2) = true)
    (a3 : PySem.W.nsIn K mainGlobals "is_size" = some (some (.ref f3)))
    (l3 : K.lookup f3 = some ⟨oc3, od3, .func (PySem.W.fnOf "is_size" "is_size" (defArgs sIsSize) (defBody sIsSize) (defScope sIsSize) .none kV3 dc3 pm3 an3 cd3 ct3), sl3⟩)
    (c3 : PySem.W.codeIn K cd3 "is_size" = true)
    (k3 : PySem.W.keepIn K (.ref f3) = true)
    (a4 : PySem.W.nsIn K mainGlobals "check_size" = some (some (.ref f4)))
    (l4 : K.lookup f4 = some ⟨oc4, od4, .func (PySem.W.fnOf "check_size" "check_size" (defArgs sCheckSize) (defBody sCheckSize) (defScope sCheckSize) .none kV4 dc4 pm4 an4 cd4 ct4), sl4⟩)
    (c4 : PySem.W.codeIn K cd4 "check_size" = true)
    (k4 : PySem.W.keepIn K (.ref f4) = true)
    (a5 : PySem.W.nsIn K mainGlobals "check_word" = some (some (.ref f5)))
    (l5 : K.lookup f5 = some ⟨oc5, od5, .func (PySem.W.fnOf "check_word" "check_word" (defArgs sCheckWord) (defBody sCheckWord) (defScope sCheckWord) .none kV5 dc5 pm5 an5 cd5 ct5), sl5⟩)
    (c5 : PySem.W.codeIn K cd5 "check_word" = true)
    (k5 : PySem.W.keepIn K (.ref f5) = true)
    (a6 : PySem.W.nsIn K mainGlobals "ascending" = some (some (.ref f6)))
    (l6 : K.lookup f6 = some ⟨oc6, od6, .func (PySem.W.fnOf "ascending" "ascending" (defArgs sAsc) (defBody sAsc) (defScope sAsc) .none kV6 dc6 pm6 an6 cd6 ct6), sl6⟩)
    (c6 : PySem.W.codeIn K cd6 "ascending" = true)
    (k6 : PySem.W.keepIn K (.ref f6) = true)
    (a7 : PySem.W.findIn K (.ref C) "__init__" = some (some (.ref f7)))
    (i7 : PySem.W.isFn K (.ref f7) = true)
    (l7 : K.lookup f7 = some ⟨oc7, od7, .func (PySem.W.fnOf "__init__" "Table.__init__" (defArgs sInit) (defBody sInit) (defScope sInit) .none kV7 dc7 pm7 an7 cd7 ct7), sl7⟩)
    (c7 : PySem.W.codeIn K cd7 "Table.__init__" = true)
    (k7 : PySem.W.keepIn K (.ref f7) = true)
    (a8 : PySem.W.findIn K (.ref C) "__getitem__" = some (some (.ref f8)))
    (i8 : PySem.W.isFn K (.ref f8) = true)
    (n8 : PySem.W.fnIn K f8 = true)
    (l8 : K.lookup f8 = some ⟨oc8, od8, .func (PySem.W.fnOf "__getitem__" "Table.__getitem__" (defArgs sGetitem) (defBody sGetitem) (defScope sGetitem) .none kV8 dc8 pm8 an8 cd8 ct8), sl8⟩)
    (c8 : PySem.W.codeIn K cd8 "Table.__getitem__" = true)
    (k8 : PySem.W.keepIn K (.ref f8) = true)
    (a9 : PySem.W.nsIn K mainGlobals "_law_box" = some (some (.ref f9)))
    (l9 : K.lookup f9 = some ⟨oc9, od9, .func (PySem.W.fnOf "_law_box" "_law_box" (defArgs sBox) (defBody sBox) (defScope sBox) .none kV9 dc9 pm9 an9 cd9 ct9), sl9⟩)
    (c9 : PySem.W.codeIn K cd9 "_law_box" = true)
    (k9 : PySem.W.keepIn K (.ref f9) = true)
    (a10 : PySem.W.nsIn K mainGlobals "_law_take" = some (some (.ref f10)))
    (l10 : K.lookup f10 = some ⟨oc10, od10, .func (PySem.W.fnOf "_law_take" "_law_take" (defArgs sTake) (defBody sTake) (defScope sTake) .none kV10 dc10 pm10 an10 cd10 ct10), sl10⟩)
    (c10 : PySem.W.codeIn K cd10 "_law_take" = true)
    (k10 : PySem.W.keepIn K (.ref f10) = true)
    (a11 : PySem.W.nsIn K mainGlobals "_law_words" = some (some (.ref f11)))
    (l11 : K.lookup f11 = some ⟨oc11, od11, .func (PySem.W.fnOf "_law_words" "_law_words" (defArgs sWords) (defBody sWords) (defScope sWords) .none kV11 dc11 pm11 an11 cd11 ct11), sl11⟩)
    (c11 : PySem.W.codeIn K cd11 "_law_words" = true)
    (k11 : PySem.W.keepIn K (.ref f11) = true)
    (a12 : PySem.W.nsIn K mainGlobals "_law_rows" = some (some (.ref f12)))
    (l12 : K.lookup f12 = some ⟨oc12, od12, .func (PySem.W.fnOf "_law_rows" "_law_rows" (defArgs sRowsL) (defBody sRowsL) (defScope sRowsL) .none kV12 dc12 pm12 an12 cd12 ct12), sl12⟩)
    (c12 : PySem.W.codeIn K cd12 "_law_rows" = true)
    (k12 : PySem.W.keepIn K (.ref f12) = true)
    (a13 : PySem.W.nsIn K mainGlobals "check_same_size" = some (some (.ref f13)))
    (l13 : K.lookup f13 = some ⟨oc13, od13, .func (PySem.W.fnOf "check_same_size" "check_same_size" (defArgs sChSame) (defBody sChSame) (defScope sChSame) .none kV13 dc13 pm13 an13 cd13 ct13), sl13⟩)
    (c13 : PySem.W.codeIn K cd13 "check_same_size" = true)
    (k13 : PySem.W.keepIn K (.ref f13) = true)
    (a14 : PySem.W.findIn K (.ref C) "__contains__" = some (some (.ref f14)))
    (i14 : PySem.W.isFn K (.ref f14) = true)
    (l14 : K.lookup f14 = some ⟨oc14, od14, .func (PySem.W.fnOf "__contains__" "Table.__contains__" (defArgs sContains) (defBody sContains) (defScope sContains) .none kV14 dc14 pm14 an14 cd14 ct14), sl14⟩)
    (c14 : PySem.W.codeIn K cd14 "Table.__contains__" = true)
    (k14 : PySem.W.keepIn K (.ref f14) = true)
    (a15 : PySem.W.nsIn K mainGlobals "lost_holds" = some (some (.ref f15)))
    (l15 : K.lookup f15 = some ⟨oc15, od15, .func (PySem.W.fnOf "lost_holds" "lost_holds" (defArgs sHolds) (defBody sHolds) (defScope sHolds) .none kV15 dc15 pm15 an15 cd15 ct15), sl15⟩)
    (c15 : PySem.W.codeIn K cd15 "lost_holds" = true)
    (k15 : PySem.W.keepIn K (.ref f15) = true)
    (a16 : PySem.W.nsIn K mainGlobals "_law_far" = some (some (.ref f16)))
    (l16 : K.lookup f16 = some ⟨oc16, od16, .func (PySem.W.fnOf "_law_far" "_law_far" (defArgs sFar) (defBody sFar) (defScope sFar) .none kV16 dc16 pm16 an16 cd16 ct16), sl16⟩)
    (c16 : PySem.W.codeIn K cd16 "_law_far" = true)
    (k16 : PySem.W.keepIn K (.ref f16) = true)
    (a17 : PySem.W.nsIn K mainGlobals "_law_mixed" = some (some (.ref f17)))
    (l17 : K.lookup f17 = some ⟨oc17, od17, .func (PySem.W.fnOf "_law_mixed" "_law_mixed" (defArgs sMixed) (defBody sMixed) (defScope sMixed) .none kV17 dc17 pm17 an17 cd17 ct17), sl17⟩)
    (c17 : PySem.W.codeIn K cd17 "_law_mixed" = true)
    (k17 : PySem.W.keepIn K (.ref f17) = true)
    (a18 : PySem.W.nsIn K mainGlobals "_law_is" = some (some (.ref f18)))
    (l18 : K.lookup f18 = some ⟨oc18, od18, .func (PySem.W.fnOf "_law_is" "_law_is" (defArgs sIs) (defBody sIs) (defScope sIs) .none kV18 dc18 pm18 an18 cd18 ct18), sl18⟩)
    (c18 : PySem.W.codeIn K cd18 "_law_is" = true)
    (k18 : PySem.W.keepIn K (.ref f18) = true)
    (a19 : PySem.W.nsIn K mainGlobals "_law_right" = some (some (.ref f19)))
    (l19 : K.lookup f19 = some ⟨oc19, od19, .func (PySem.W.fnOf "_law_right" "_law_right" (defArgs sRight) (defBody sRight) (defScope sRight) .none kV19 dc19 pm19 an19 cd19 ct19), sl19⟩)
    (c19 : PySem.W.codeIn K cd19 "_law_right" = true)
    (k19 : PySem.W.keepIn K (.ref f19) = true)
    (a20 : PySem.W.nsIn K mainGlobals "law" = some (some (.ref f20)))
    (l20 : K.lookup f20 = some ⟨oc20, od20, .func (PySem.W.fnOf "law" "law" (defArgs sLaw) (defBody sLaw) (defScope sLaw) .none kV20 dc20 pm20 an20 cd20 ct20), sl20⟩)
    (c20 : PySem.W.codeIn K cd20 "law" = true)
    (k20 : PySem.W.keepIn K (.ref f20) = true)
    (pg : PySem.W.plainGet K C Str.empty = true)
    (hd : PySem.W.hasDictIn K C = true)
    (po : PySem.W.plainOver K C = true)
    (sa : PySem.W.findIn K (.ref C) "__setattr__" = some (some (.builtin "object.__setattr__")))
    (mk : PySem.W.makesIn K C = true)
    (kc : PySem.W.keepIn K (.ref C) = true)
    (nS : PySem.W.findIn K (.ref C) "size" = some none)
    (nR : PySem.W.findIn K (.ref C) "_rows" = some none)
    (nP : PySem.W.findIn K (.ref C) "_pairs" = some none)
    (rd : PySem.W.readsIn K C (.type "type") = true)
    (rg : PySem.W.specialIn K (.ref C) "__getattribute__" = some (some (.builtin "type.__getattribute__")))
    (ms : PySem.W.findCls K (.ref C) (.type "type") "MOST" = some (.val (.int 6 tM)))
    (ia : PySem.W.findIn K (.ref C) "__class__" = some (some (.builtin "object.__class__")))
    (ic : PySem.W.specialIn K (.builtin "object.__class__") "__get__" = some (some (.builtin "getset_descriptor.__get__")))
    (it : PySem.W.takesIn K (.builtin "object.__class__") = some true)
    (im : PySem.W.mroIn K C (.type "object") = some true)
    (sf : PySem.W.selfFirst K C = true)
    (nf : PySem.W.notFirst K C (.ref C) = true)
    (z0 : PySem.W.nsIn K mainGlobals "len" = some none)
    (z1 : PySem.W.nsIn K mainGlobals "range" = some none)
    (z2 : PySem.W.nsIn K mainGlobals "all" = some none)
    (z3 : PySem.W.nsIn K mainGlobals "list" = some none)
    (z4 : PySem.W.nsIn K mainGlobals "tuple" = some none)
    (z5 : PySem.W.nsIn K mainGlobals "enumerate" = some none)
    (z6 : PySem.W.nsIn K mainGlobals "isinstance" = some none)
    (z7 : PySem.W.nsIn K mainGlobals "int" = some none)
    (z8 : PySem.W.nsIn K mainGlobals "bool" = some none)
    (z9 : PySem.W.nsIn K mainGlobals "str" = some none)
    (z10 : PySem.W.nsIn K mainGlobals "abs" = some none)
    : ∃ fd : FuncData, (∀ (s : Shared) (v : Value), BindsTo s fd ⟨[v], []⟩ [("_law_script", v)]) ∧ ∀ base : Heap, K.In base → base.Ns mainGlobals mg → FnOk l.prog w K mg base CX0 6 fa fd ["_law_script"] (spLaw K) := by
  have e := hfa.symm.trans (PySem.W.mg_of X G a20)
  cases e
  have F1 := fun_mk (st := sIsWord) l1 c1 k1
  have b1 := F1.binds (ps := ["word", "size"]) fun _ _ _ _ _ _ us hl => match us, hl with | [_, _], _ => rfl
  have F2 := fun_mk (st := sAllWords) l2 c2 k2
  have b2 := F2.binds (ps := ["words", "size"]) fun _ _ _ _ _ _ us hl => match us, hl with | [_, _], _ => rfl
  have F3 := fun_mk (st := sIsSize) l3 c3 k3
  have b3 := F3.binds (ps := ["size"]) fun _ _ _ _ _ _ us hl => match us, hl with | [_], _ => rfl
  have F4 := fun_mk (st := sCheckSize) l4 c4 k4
  have b4 := F4.binds (ps := ["size"]) fun _ _ _ _ _ _ us hl => match us, hl with | [_], _ => rfl
  have F5 := fun_mk (st := sCheckWord) l5 c5 k5
  have b5 := F5.binds (ps := ["word", "size"]) fun _ _ _ _ _ _ us hl => match us, hl with | [_, _], _ => rfl
  have F6 := fun_mk (st := sAsc) l6 c6 k6
  have b6 := F6.binds (ps := ["words", "size"]) fun _ _ _ _ _ _ us hl => match us, hl with | [_, _], _ => rfl
  have F7 := fun_mk (st := sInit) l7 c7 k7
  have b7 := F7.binds (ps := ["self", "rows"]) fun _ _ _ _ _ _ us hl => match us, hl with | [_, _], _ => rfl
  have F8 := fun_mk (st := sGetitem) l8 c8 k8
  have b8 := F8.binds (ps := ["self", "word"]) fun _ _ _ _ _ _ us hl => match us, hl with | [_, _], _ => rfl
  have F9 := fun_mk (st := sBox) l9 c9 k9
  have b9 := F9.binds (ps := ["_law_script"]) fun _ _ _ _ _ _ us hl => match us, hl with | [_], _ => rfl
  have F10 := fun_mk (st := sTake) l10 c10 k10
  have b10 := F10.binds (ps := ["_law_box_here", "_law_many"]) fun _ _ _ _ _ _ us hl => match us, hl with | [_, _], _ => rfl
  have F11 := fun_mk (st := sWords) l11 c11 k11
  have b11 := F11.binds (ps := ["_law_box_here", "_law_n", "_law_least"]) fun _ _ _ _ _ _ us hl => match us, hl with | [_, _, _], _ => rfl
  have F12 := fun_mk (st := sRowsL) l12 c12 k12
  have b12 := F12.binds (ps := ["_law_box_here", "_law_n", "_law_least"]) fun _ _ _ _ _ _ us hl => match us, hl with | [_, _, _], _ => rfl
  have F13 := fun_mk (st := sChSame) l13 c13 k13
  have b13 := F13.binds (ps := ["first", "second"]) fun _ _ _ _ _ _ us hl => match us, hl with | [_, _], _ => rfl
  have F14 := fun_mk (st := sContains) l14 c14 k14
  have b14 := F14.binds (ps := ["self", "pair"]) fun _ _ _ _ _ _ us hl => match us, hl with | [_, _], _ => rfl
  have F15 := fun_mk (st := sHolds) l15 c15 k15
  have b15 := F15.binds (ps := ["first", "whole", "paper"]) fun _ _ _ _ _ _ us hl => match us, hl with | [_, _, _], _ => rfl
  have F16 := fun_mk (st := sFar) l16 c16 k16
  have b16 := F16.binds (ps := ["_law_box_here", "_law_n"]) fun _ _ _ _ _ _ us hl => match us, hl with | [_, _], _ => rfl
  have F17 := fun_mk (st := sMixed) l17 c17 k17
  have b17 := F17.binds (ps := ["_law_box_here", "_law_words_here"]) fun _ _ _ _ _ _ us hl => match us, hl with | [_, _], _ => rfl
  have F18 := fun_mk (st := sIs) l18 c18 k18
  have b18 := F18.binds (ps := ["_law_value", "_law_due"]) fun _ _ _ _ _ _ us hl => match us, hl with | [_, _], _ => rfl
  have F19 := fun_mk (st := sRight) l19 c19 k19
  have b19 := F19.binds (ps := ["_law_first", "_law_whole", "_law_told", "_law_out", "_law_blocks"]) fun _ _ _ _ _ _ us hl => match us, hl with | [_, _, _, _, _], _ => rfl
  have F20 := fun_mk (st := sLaw) l20 c20 k20
  have B : Bt mg := ⟨PySem.W.mg_none_of X G z0, PySem.W.mg_none_of X G z1, PySem.W.mg_none_of X G z2, PySem.W.mg_none_of X G z3, PySem.W.mg_none_of X G z4, PySem.W.mg_none_of X G z5, PySem.W.mg_none_of X G z6, PySem.W.mg_none_of X G z7, PySem.W.mg_none_of X G z8, PySem.W.mg_none_of X G z9, PySem.W.mg_none_of X G z10⟩
  have T : CT K mg C := ⟨PySem.W.mg_of X G aC, ⟨pg, hd, po, sa⟩, ⟨rd, rg⟩, ⟨_, ms⟩, nS, nR, nP⟩
  have I : C8.InsC K C := ⟨⟨pg, hd, po, sa⟩, ia, ic, it, im, by unfold PySem.W.kitOne; rw [if_pos (by simp)]⟩
  have L : Lt K mg := ⟨B, ⟨_, _, F10, PySem.W.mg_of X G a10, b10⟩, ⟨_, _, F11, PySem.W.mg_of X G a11, b11⟩⟩
  have Gg : Gs K mg C := ⟨B, T, ⟨_, _, F1, PySem.W.mg_of X G a1, b1⟩, ⟨_, _, F2, PySem.W.mg_of X G a2, b2⟩, ⟨_, _, F3, PySem.W.mg_of X G a3, b3⟩, ⟨_, _, F4, PySem.W.mg_of X G a4, b4⟩, ⟨_, _, F5, PySem.W.mg_of X G a5, b5⟩, ⟨_, _, F6, PySem.W.mg_of X G a6, b6⟩⟩
  have A : Al K mg C := ⟨L, Gg, ⟨_, _, F7, ⟨mk, a7, i7, kc⟩, b7⟩, ⟨_, _, F13, PySem.W.mg_of X G a13, b13⟩, ⟨_, _, F14, ⟨a14, i14⟩, b14⟩, ⟨_, _, F8, ⟨a8, n8, i8⟩, b8⟩, ⟨_, _, F15, PySem.W.mg_of X G a15, b15⟩, ⟨_, _, F9, PySem.W.mg_of X G a9, b9⟩, ⟨_, _, F12, PySem.W.mg_of X G a12, b12⟩, ⟨_, _, F16, PySem.W.mg_of X G a16, b16⟩, ⟨_, _, F17, PySem.W.mg_of X G a17, b17⟩, ⟨_, _, F18, PySem.W.mg_of X G a18, b18⟩, ⟨_, _, F19, PySem.W.mg_of X G a19, b19⟩⟩
  exact ⟨PySem.W.fnOf "law" "law" (defArgs sLaw) (defBody sLaw) (defScope sLaw) .none kV20 dc20 pm20 an20 cd20 ct20, fun s v => .of_eq rfl, fun base _ _ =>
    ok_law F20 A⟩
theorem walk {l : PySem.W.OpenLaw} {q : Program} {loose : List Str} {XP : (Str → Option Value) → Heap → Prop} {YP : World → Heap → Prop} {d : DefRec} {K : Params → PySem.W.Frag} (hn : l.most = some 63) (hdf : d.params.defaults = [])
    (hY : ∀ (w : World) (h : Heap), YP w h → (K w.params).In h)
    (F : ∀ (w : World) (mg : Str → Option Value) (fa : Addr) (h : Heap), (K w.params).In h → h.Ns mainGlobals mg → mg d.name = some (.ref fa) →
      ∃ fd : FuncData, (∀ (s : Shared) (u : Value), BindsTo s fd ⟨[u], []⟩ [("_law_script", u)]) ∧ ∀ base : Heap, (K w.params).In base → base.Ns mainGlobals mg → FnOk l.prog w (K w.params) mg base CX0 6 fa fd ["_law_script"] (spLaw (K w.params))) :
    PySem.W.WalkO q loose XP YP l.row.toRowW d [] (fun f vs => PySem.call f vs) :=
  L2.walk_of (n := 63) (k := 6) (x := "_law_script") (CX := fun _ => CX0) (sp := fun w => spLaw (K w.params)) hn (by decide) hdf ⟨rfl, by decide, by decide⟩ hY F (fun _ _ a ns hl _ hS => ⟨a, ns, rfl, hS, hl, fun _ => rfl⟩) fun _ _ _ _ _ z => z
end Toy
open PySem PySem.W PyProof.Rows in
set_option maxRecDepth 100000 in
set_option maxHeartbeats 0 in
theorem PySem.Challenge.cw_murmurline_k33_lost_papers_holds : PySem.Challenge.rw_murmurline_k33_lost_papers.Holds := by
  w_on; o_law; k_head; (case hw => w_witness2)
  k_fill
  refine Toy.walk (l := PySem.Challenge.rw_murmurline_k33_lost_papers) rfl rfl (fun w h Y => PySem.W.kIn_of Y) ?F
  case F =>
    intro w mg fa h KX G hmg
    refine' Toy.all_mk KX G hmg ?aC ?a1 ?l1 ?c1 ?k1 ?a2 ?l2 ?c2 ?k2 ?a3 ?l3 ?c3 ?k3 ?a4 ?l4 ?c4 ?k4 ?a5 ?l5 ?c5 ?k5 ?a6 ?l6 ?c6 ?k6 ?a7 ?i7 ?l7 ?c7 ?k7 ?a8 ?i8 ?n8 ?l8 ?c8 ?k8 ?a9 ?l9 ?c9 ?k9 ?a10 ?l10 ?c10 ?k10 ?a11 ?l11 ?c11 ?k11 ?a12 ?l12 ?c12 ?k12 ?a13 ?l13 ?c13 ?k13 ?a14 ?i14 ?l14 ?c14 ?k14 ?a15 ?l15 ?c15 ?k15 ?a16 ?l16 ?c16 ?k16 ?a17 ?l17 ?c17 ?k17 ?a18 ?l18 ?c18 ?k18 ?a19 ?l19 ?c19 ?k19 ?a20 ?l20 ?c20 ?k20 ?pg ?hd ?po ?sa ?mk ?kc ?nS ?nR ?nP ?rd ?rg ?ms ?ia ?ic ?it ?im ?sf ?nf ?z0 ?z1 ?z2 ?z3 ?z4 ?z5 ?z6 ?z7 ?z8 ?z9 ?z10
    (case aC => k_is)
    (case a1 => k_is)
    (case l1 => k_is)
    (case c1 => k_is)
    (case k1 => k_is)
    (case a2 => k_is)
    (case l2 => k_is)
    (case c2 => k_is)
    (case k2 => k_is)
    (case a3 => k_is)
    (case l3 => k_is)
    (case c3 => k_is)
    (case k3 => k_is)
    (case a4 => k_is)
    (case l4 => k_is)
    (case c4 => k_is)
    (case k4 => k_is)
    (case a5 => k_is)
    (case l5 => k_is)
    (case c5 => k_is)
    (case k5 => k_is)
    (case a6 => k_is)
    (case l6 => k_is)
    (case c6 => k_is)
    (case k6 => k_is)
    (case a7 => k_is)
    (case i7 => k_is)
    (case l7 => k_is)
    (case c7 => k_is)
    (case k7 => k_is)
    (case a8 => k_is)
    (case i8 => k_is)
    (case n8 => k_is)
    (case l8 => k_is)
    (case c8 => k_is)
    (case k8 => k_is)
    (case a9 => k_is)
    (case l9 => k_is)
    (case c9 => k_is)
    (case k9 => k_is)
    (case a10 => k_is)
    (case l10 => k_is)
    (case c10 => k_is)
    (case k10 => k_is)
    (case a11 => k_is)
    (case l11 => k_is)
    (case c11 => k_is)
    (case k11 => k_is)
    (case a12 => k_is)
    (case l12 => k_is)
    (case c12 => k_is)
    (case k12 => k_is)
    (case a13 => k_is)
    (case l13 => k_is)
    (case c13 => k_is)
    (case k13 => k_is)
    (case a14 => k_is)
    (case i14 => k_is)
    (case l14 => k_is)
    (case c14 => k_is)
    (case k14 => k_is)
    (case a15 => k_is)
    (case l15 => k_is)
    (case c15 => k_is)
    (case k15 => k_is)
    (case a16 => k_is)
    (case l16 => k_is)
    (case c16 => k_is)
    (case k16 => k_is)
    (case a17 => k_is)
    (case l17 => k_is)
    (case c17 => k_is)
    (case k17 => k_is)
    (case a18 => k_is)
    (case l18 => k_is)
    (case c18 => k_is)
    (case k18 => k_is)
    (case a19 => k_is)
    (case l19 => k_is)
    (case c19 => k_is)
    (case k19 => k_is)
    (case a20 => k_is)
    (case l20 => k_is)
    (case c20 => k_is)
    (case k20 => k_is)
    (case pg => k_is)
    (case hd => k_is)
    (case po => k_is)
    (case sa => k_is)
    (case mk => k_is)
    (case kc => k_is)
    (case nS => k_is)
    (case nR => k_is)
    (case nP => k_is)
    (case rd => k_is)
    (case rg => k_is)
    (case ms => k_is)
    (case ia => k_is)
    (case ic => k_is)
    (case it => k_is)
    (case im => k_is)
    (case sf => k_is)
    (case nf => k_is)
    (case z0 => k_is)
    (case z1 => k_is)
    (case z2 => k_is)
    (case z3 => k_is)
    (case z4 => k_is)
    (case z5 => k_is)
    (case z6 => k_is)
    (case z7 => k_is)
    (case z8 => k_is)
    (case z9 => k_is)
    (case z10 => k_is)
