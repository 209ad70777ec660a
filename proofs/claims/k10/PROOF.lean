import PyProof.Rows.All
import Wide.All
import OpenK.AllK
import Wide.FinOn
import HandS.ForMost
import HandS.IsInst
import HandS.ClsMeth
import HandS.SlotsOwn
import KE.GoesEnum
import HandS.Walk
import HandS.Codes
import HandS.Conv
import HandS.Deep
import HandS.Style
import PySem.Challenge.RW_murmurline_k10_whole_fits_behind
set_option Elab.async false
set_option linter.all false
set_option maxRecDepth 100000
set_option maxHeartbeats 4000000
namespace L2
open PySem PySem.Spec PyProof.Rows
/-! ## own operators of an instance with a dict -/
/-- x[i], x an own instance -/
def rIxO (C : Addr) (sp : Sp) (E : XK) : R2 := fun x y H Q => ∃ a dx fs, x = .ref a ∧ H a = some (.ins C dx fs) ∧ sp [x, y] H Q E
section
variable {X : Cx} {CX : CXT} {k : Nat} {C f : Addr} {fd : FuncData} {ps : List Str} {sp : Sp} {E : XK} {a b : Expr} {ta tb : TE} {pos : Pos}
theorem pe_ixOwn (F : FnOk X.prog X.w X.K X.mg X.base CX k f fd ps sp) (hr : Room (k + 1) X.A) (hb : Binds X.K fd ps []) (hx : Passes CX X.nox E) (hs : PySem.W.findIn X.K (.ref C) "__getitem__" = some (some (.ref f))) (hf : PySem.W.fnIn X.K f = true)
    (hfn : PySem.W.isFn X.K (.ref f) = true) (ha : PE X a ta) (hbb : PE X b tb)
    (hsl : ∀ o i, subscripted b true o i = runValue (.builtin "lifetime.subscript" ⟨[o, i], []⟩) := by intro _ _; rfl) :
    PE X (.Subscript a b pos) (tOp (rIxO C sp E) ta tb) := by
  refine ⟨fun pins s σ H Q I h => ?_⟩
  refine Subscript_ (binT ha hbb I h fun v u s2 x y H2 I2 rx ry q => ?_)
  obtain ⟨o, dx, fs, rfl, ea, q⟩ := q
  cases (show v = Value.ref o from rx)
  obtain ⟨mA, O, _⟩ := ins_get I2.hok ea
  obtain ⟨od, J, _⟩ := O.look
  obtain ⟨m, hF⟩ := I2.fr
  refine PySem.W.sub_K hF I2.ok.mod.kin J hs hf hfn ?_ (hsl _ _)
  have hl : ([Value.ref o, u] ++ []).length = ps.length := by
    rw [List.append_nil]
    exact F.len _ _ _ _ q
  refine wpAny_call (codeAny_mono (F.run X.A.in1 X.stack s2 H2 ⟨[.ref o, u], []⟩ ([.ref o, u] ++ []) [.ref o, y] Q E hr.in1 I2.env0.in1 (hb _ [.ref o, u] I2.kIn hl) (.cons rfl (.cons ry .nil)) q) fun r s' hq => ?_)
  cases r with
  | error er => exact False.elim (hx pins σ H2 s2 er s' (I2.wish _) hq)
  | ok fl =>
    cases fl with
    | ret u' => exact I2.after hq
    | next => exact False.elim hq
    | brk => exact False.elim hq
    | cont => exact False.elim hq
/-- a op b, both own instances of the class at C -/
def rBin (C : Addr) (sp : Sp) (E : XK) : R2 := fun x y H Q => ∃ a dx fs b dy gs, x = .ref a ∧ y = .ref b ∧ H a = some (.ins C dx fs) ∧ H b = some (.ins C dy gs) ∧ sp [x, y] H Q E
theorem op_bin {op : Operator} (F : FnOk X.prog X.w X.K X.mg X.base CX k f fd ps sp) (hr : Room k X.A) (hb : Binds X.K fd ps []) (hx : Passes CX X E) (hc : PySem.W.selfFirst X.K C = true)
    (hs : PySem.W.findIn X.K (.ref C) (PySem.dunder op.info.2) = some (some (.ref f))) (hfn : PySem.W.isFn X.K (.ref f) = true) : OpR X (binaryOp op) (rBin C sp E) := by
  intro pins s σ H x y v u Q I rx ry h
  obtain ⟨a, dx, fs, b, dy, gs, rfl, rfl, ha, hb', q⟩ := h
  cases (show v = Value.ref a from rx)
  cases (show u = Value.ref b from ry)
  obtain ⟨mA, O, _⟩ := ins_get I.hok ha
  obtain ⟨od, J, _⟩ := O.look
  obtain ⟨mB, O', _⟩ := ins_get I.hok hb'
  obtain ⟨od', J', _⟩ := O'.look
  obtain ⟨m, hF⟩ := I.fr
  refine PySem.W.binop_K hF I.ok.mod.kin J J'.type hc hs hfn ?_
  refine wpAny_mono (run_fn (us := [.ref a, .ref b]) (vs := [.ref a, .ref b]) F hr hb .nil hx I (.cons rfl (.cons rfl .nil)) q) (fun w s' z => ?_) fun _ _ x => x
  obtain ⟨z', H', I', rz, qz⟩ := z
  exact SlX.cmpback rz ⟨z', H', I', rz, qz⟩
/-- ~x -/
def rInv (C : Addr) (sp : Sp) (E : XK) : V → Hp → VK → Prop := fun x H Q => ∃ a dx fs, x = .ref a ∧ H a = some (.ins C dx fs) ∧ sp [x] H Q E
theorem un_own (F : FnOk X.prog X.w X.K X.mg X.base CX k f fd ps sp) (hr : Room k X.A) (hb : Binds X.K fd ps []) (hx : Passes CX X E)
    (hs : PySem.W.findIn X.K (.ref C) "__invert__" = some (some (.ref f))) (hfn : PySem.W.isFn X.K (.ref f) = true) : UnR X (unaryOp .Invert) (rInv C sp E) := by
  intro pins s σ H x v Q I rx h
  obtain ⟨a, dx, fs, rfl, ha, q⟩ := h
  cases (show v = Value.ref a from rx)
  obtain ⟨mA, O, _⟩ := ins_get I.hok ha
  obtain ⟨od, J, _⟩ := O.look
  obtain ⟨m, hF⟩ := I.fr
  refine PySem.W.ksp_inv hF I.ok.mod.kin J hs hfn ?_
  exact run_fn (us := [.ref a]) (vs := [.ref a]) F hr hb .nil hx I (.cons rfl .nil) q
end
end L2
namespace PySem
open AutoSeq1 (wpAny_loadPart')
theorem meets_enumerate_new1 {v : Value} {o : Obj} {H : Heap → Prop} (B : Begins v o H) :
    Meets (Builtin.«enumerate.__new__» ⟨[.type "enumerate", v], []⟩) (fun _ R s => H s.heap ∧
      R (.ok (.ret (.ref (s.heap.push o).objs.size))) { s with heap := (s.heap.push o).push { cls := .type "enumerate", data := .fields #[.none, .bool false, .ref s.heap.objs.size, rawInt 0, .none, .none] } }) :=
  .of_wp fun prog w A R s h => by
    obtain ⟨hp, g, d, tk, os⟩ := s; obtain ⟨h1, h⟩ := h
    have hsub := sub_enumerate
    have q1 : ∀ {A' : Around} {E : Value → Shared → Prop} {Q : Value → Shared → Prop}, Q (.ref hp.objs.size) ⟨hp.push o, g, d, tk, os⟩ → wpAny (model prog w) A' (pyIter v) Q E ⟨hp, g, d, tk, os⟩ :=
      fun q => B.iter prog w _ _ ⟨hp, g, d, tk, os⟩ _ h1 q
    wp_walk using q1
    refine wpAny_stack_any fun st => wpAny_pure ?_
    split
    · rename_i c _ _ _ _ _
      cases (c == Value.type "enumerate")
      · wp_walk using q1
        exact ⟨_, rfl, h⟩
      · wp_walk using q1
        exact ⟨_, rfl, h⟩
    · wp_walk using q1
      exact ⟨_, rfl, h⟩
section
variable {prog : Program} {w : World} {A : Around} {E : Value → Shared → Prop} {s : Shared}
theorem enum_begins1 {v : Value} {o : Obj} {H : Heap → Prop} {Q : Value → Shared → Prop} (B : Begins v o H) (h1 : H s.heap)
    (h : ∀ h', IsEnum h' (s.heap.objs.size + 1) s.heap.objs.size 0 .none → h'.get? s.heap.objs.size = some o → h'.objs.size = s.heap.objs.size + 2 →
      (∀ b o, s.heap.get? b = some o → h'.get? b = some o) → Q (.ref (s.heap.objs.size + 1)) { s with heap := h' }) :
    wpAny (model prog w) A (call (.type "enumerate") [v]) Q E s := by
  refine callType_new F.called_enumerate (by decide) (F.typeCall_enumerate_1 _) (F.newCall_enumerate_1 _) (fun obj => F.args_object_init_2 obj _) F.entry_enumerate_new
    (meets_enumerate_new1 B) ⟨h1, ?_⟩
  have hz : (s.heap.push o).objs.size = s.heap.objs.size + 1 := Heap.size_push ..
  show _ ∧ _
  rw [hz]
  have he : IsEnum ((s.heap.push o).push { cls := .type "enumerate", data := .fields #[.none, .bool false, .ref s.heap.objs.size, rawInt 0, .none, .none] }) (s.heap.objs.size + 1) s.heap.objs.size 0 .none := by
    have := Heap.get?_push_size (s.heap.push o) (o := { cls := .type "enumerate", data := .fields #[.none, .bool false, .ref s.heap.objs.size, rawInt 0, .none, .none] }) rfl
    rw [hz] at this; exact this
  refine ⟨⟨_, he, rfl⟩, h _ he (Heap.get?_push_of_some _ (Heap.get?_push_size _ B.free)) (by rw [Heap.size_push, hz]) fun b o x => Heap.get?_push_of_some _ (Heap.get?_push_of_some _ x)⟩
end
end PySem
namespace L2
open PySem PySem.Spec PyProof.Rows
/-- the tuple at a, each item in a new pair -/
def Itet (K : PySem.W.Frag) (a : Addr) : It :=
  ⟨fun i H => ∃ (xs : List V) (x : V), SqT K H a xs ∧ xs[i]? = some x, fun i H v H' => ∃ T x, v = .ref T ∧ H T = none ∧ H' = upd H T (.tup [.int (i : Nat), x]) ∧ ∀ xs, SqT K H a xs → xs[i]? = some x, fun i H => ∃ xs : List V, SqT K H a xs ∧ xs.length = i⟩
theorem tup_ne_iter {h : Heap} {a it : Addr} {items : Array Value} {i : Nat} (p : h.IsTuple a items) (q : h.IsTupleIter it a i) : a ≠ it := fun z => by
  obtain ⟨o, h1, h2, _⟩ := p
  obtain ⟨o', h3, h4, _⟩ := q
  rw [z, h3] at h1
  cases h1
  rw [h4] at h2
  injection h2 with h2
  exact absurd h2 (by decide)
theorem turn_enumT {P : Program} {w : World} {K : PySem.W.Frag} {elts : List Expr} {kk : Nat} {tpos : Pos} (a e it : Addr) :
    Turn P w K (.Tuple elts kk tpos) (Itet K a) [e, it] e (fun i h => (∃ old, IsEnum h e it ((i : Nat) : Int) old) ∧ h.IsTupleIter it a i ∧ e ≠ it) where
  mem := by simp
  obj := fun i h st b hb => by
    obtain ⟨⟨old, he⟩, ⟨o, ho, hc, hd⟩, _⟩ := st
    have e' : b = e ∨ b = it := by simpa using hb
    rcases e' with z | z
    · rw [z]; exact ⟨_, he, fun v q => nomatch q⟩
    · rw [z]; exact ⟨o, ho, fun v q => by rw [hd] at q; cases q⟩
  keep := fun i h h' st k => let ⟨⟨old, he⟩, hi, hne⟩ := st; ⟨⟨old, k e (by simp) _ he⟩, hi.at fun o q => k it (by simp) o q, hne⟩
  item := by
    intro X hP hw hK hc i pins s σ H E I hf st hg
    subst hP hw hK
    obtain ⟨⟨old, he⟩, hit, hne⟩ := st
    obtain ⟨xs, x, hq, hx⟩ := hg
    obtain ⟨its, rv, p, hz⟩ := I.tuple hq
    obtain ⟨u, hu, ru⟩ := rv.get hx
    have p' : s.heap.IsTuple a its.toArray := p
    have hai := tup_ne_iter p' hit
    have hea : e ≠ a := fun z => by
      obtain ⟨o, h1, h2, _⟩ := p'
      rw [← z, he] at h1
      cases h1
      replace h2 : Value.type "enumerate" = Value.type "tuple" := h2
      injection h2 with h2
      exact absurd h2 (by decide)
    have hel : e < s.heap.objs.size := Heap.lt_size he
    have hil : it < s.heap.objs.size := by obtain ⟨_, q, _⟩ := id hit; exact Heap.lt_size q
    have hi : i < its.toArray.size := by
      have := (List.getElem?_eq_some_iff.mp hu).1
      simpa using this
    have D := Draws.tuple (prog := X.prog) (w := X.w) (A := X.A.in1) (show X.A.in1.handled = none from I.ok.hd hc) it a hai its.toArray
    refine wpAny_pyNext_enum_itemD D he ⟨hit, p'⟩ hi hne (by simp [hne, hea]) fun x' h' tk hP ho st' hT hsz hk => ?_
    have ex : x' = u := by
      have : its[i]? = some x' := by simpa using hP
      rw [hu] at this
      exact (Option.some.inj this).symm
    subst ex
    refine ⟨_, rfl, wpAny_letOwnedTupleGo_enum (s := { s with heap := h', toks := tk + 1 }) ho fun h'' he' sb => ?_⟩
    have hT2 : h''.get? s.heap.objs.size = some { cls := .type "tuple", data := .seq #[.int i tk, x'] } := (sb.2 _ (Nat.ne_of_gt hel)).trans hT
    have new : ObjOk X.prog X.w (upd H s.heap.objs.size (.tup [.int (i : Nat), x])) h'' s.heap.objs.size (.tup [.int (i : Nat), x]) :=
      ⟨by show 2 ≤ sizeLine; decide, [.int i tk, x'], .cons ⟨_, rfl⟩ (.cons ru .nil), ⟨_, hT2, rfl, _, rfl⟩⟩
    have I1 : Inv X pins σ (upd H s.heap.objs.size (.tup [.int (i : Nat), x])) { s with heap := h'', toks := tk + 1 } :=
      I.turnedNew (ch := [e, it]) (fun b ob hb q => (sb.2 b (fun z => hb (by simp [z]))).trans (hk b ob (fun z => hb (by simp [z])) (fun z => hb (by simp [z])) q)) hf (Nat.le_refl _) new
    refine ⟨.ref s.heap.objs.size, _, I1, rfl, ⟨_, x, rfl, I.hok.fresh (Nat.le_refl _), rfl, fun ys hy => by rw [I.tuple_inj hy hq]; exact hx⟩, ⟨⟨x', ?_⟩, st'.1.at fun o q => (sb.2 it (Ne.symm hne)).trans q, hne⟩, fun b hb => ?_⟩
    · have e1 : ((i + 1 : Nat) : Int) = (i : Int) + 1 := by omega
      rw [e1]; exact he'
    · have hb' : b < s.heap.objs.size := by
        have e' : b = e ∨ b = it := by simpa using hb
        rcases e' with z | z
        · rw [z]; exact hel
        · rw [z]; exact hil
      rw [upd_ne (Nat.ne_of_lt hb')]
      exact (hf b hb).1
  done := by
    intro X hP hw hK hc i pins s σ H E I hf st hg
    subst hP hw hK
    obtain ⟨⟨old, he⟩, hit, hne⟩ := st
    obtain ⟨xs, hq, hx⟩ := hg
    obtain ⟨its, rv, p, hz⟩ := I.tuple hq
    have p' : s.heap.IsTuple a its.toArray := p
    have hai := tup_ne_iter p' hit
    obtain ⟨f0, f1, f2, f3, f4, f5⟩ := hf it (by simp)
    have hl := rv.length
    have en : i = its.toArray.size := by simp; omega
    subst en
    have D := Draws.tuple (prog := X.prog) (w := X.w) (A := X.A.in1) (show X.A.in1.handled = none from I.ok.hd hc) it a hai its.toArray
    exact wpAny_pyNext_enum_endD D he ⟨hit, p'⟩ fun h' eb => ⟨rfl, I.turned (t' := s.toks) (fun b o hb q => eb b o hb q) f0 f1 f3 f4 f5⟩
  self := fun A i s Q E st h => let ⟨⟨_, he⟩, _⟩ := st; wpAny_pyIter_enum he h
def iEnumT (K : PySem.W.Frag) (ta : TA) : TI := fun σ H R => ta σ H fun vs H1 => ∃ a xs, vs = [.ref a] ∧ SqT K H1 a xs ∧ R (Itet K a) H1
theorem pi_enumT {X : Cx} {e : Expr} {ta : TA} {p pos tpos : Pos} {elts : List Expr} {kk : Nat} (hg : Gl X "enumerate") (hm : X.mg "enumerate" = none) (ha : PA X [e] ta) (hs : starEach [e] X.env = [(false, eval e X.env)] := by rfl) :
    PI X (.Tuple elts kk tpos) (.Call (.Name "enumerate" p) [e] [] pos) (iEnumT X.K ta) := by
  refine ⟨fun pins s σ H R I h => ?_⟩
  refine Call_ (ld_blt I hg hm boot_enumerate (PyProof.Rows.callWith_type1 (thn (ha.run pos pins s σ H _ I h) fun us s1 ⟨vs, H1, I1, r1, q1⟩ => ?_) hs rfl))
  obtain ⟨a, xs, ex, hq, q⟩ := q1
  subst ex
  cases r1 with
  | cons r rr =>
    cases rr
    cases r
    obtain ⟨its, rv, p', hz⟩ := I1.tuple hq
    refine enum_begins1 (begins_tuple a its.toArray) (show s1.heap.IsTuple a its.toArray from p') fun h' he hit hsz hk => wpAny_pyIter_enum he ?_
    have I2 : Inv X pins σ H1 { s1 with heap := h' } := I1.kept (t' := s1.toks) hk
    refine ⟨s1.heap.objs.size + 1, [s1.heap.objs.size + 1, s1.heap.objs.size], _, _, H1, rfl, I2, turn_enumT a (s1.heap.objs.size + 1) s1.heap.objs.size, ⟨⟨.none, he⟩, ⟨_, hit, rfl, rfl⟩, Nat.succ_ne_self _⟩, fun b hb => ?_, q⟩
    have e' : b = s1.heap.objs.size + 1 ∨ b = s1.heap.objs.size := by simpa using hb
    have hle : s1.heap.objs.size ≤ b := by
      rcases e' with z | z
      · rw [z]; exact Nat.le_add_right _ _
      · rw [z]; exact Nat.le_refl _
    exact I1.fpOk hle (I1.hok.fresh hle)
end L2
namespace L2
open PySem PySem.Spec PyProof.Rows
section
variable {J : It} {n : Nat} {G : Hp → Prop} {Y : Nat → Hp → V → Hp → Prop}
/-- the outer loop of [e for a in A for b in B] -/
theorem lc2_out (w : Walk J n G Y) {F : (Hp → Prop) → V → Hp → Prop} {H1 : Hp} {D : Addr} {Qd : Hp → Prop} (Pv : Nat → Hp → Prop) (h0 : Pv 0 (upd H1 D (.lst []))) (hG : ∀ i H, i ≤ n → Pv i H → G H)
    (hs : ∀ i x H H', i < n → Pv i H → Y i H x H' → F (Pv (i + 1)) x H') (hd : ∀ H, Pv n H → Qd H) :
    ∃ W : Nat → Nat → Hp → Prop, (∃ m, W 0 m (upd H1 D (.lst []))) ∧ ∀ i m H, W i m H →
      (J.stop i H ∧ Qd H) ∨ (J.go i H ∧ ∃ Nx : Hp → Prop, (∀ H', Nx H' → ∃ m', m' < m ∧ W (i + 1) m' H') ∧ ∀ x H', J.yld i H x H' → F Nx x H') := by
  refine ⟨fun i m H => m = n - i ∧ i ≤ n ∧ Pv i H, ⟨n, by simp, Nat.zero_le _, h0⟩, ?_⟩
  rintro i m H ⟨rfl, hi, p⟩
  have q := hG i H hi p
  by_cases hlt : i < n
  · exact .inr ⟨w.goes i H hlt q, Pv (i + 1), fun H' p' => ⟨n - (i + 1), by omega, rfl, hlt, p'⟩, fun x H' y => hs i x H H' hlt p (w.yields i H x H' hlt q y)⟩
  · have e : i = n := by omega
    subst e
    exact .inl ⟨w.stops H q, hd H p⟩
/-- the inner one -/
theorem lc2_in (w : Walk J n G Y) {F : (Hp → Prop) → V → Hp → Prop} {H1 : Hp} {Qd : Hp → Prop} (Pv : Nat → Hp → Prop) (h0 : Pv 0 H1) (hG : ∀ i H, i ≤ n → Pv i H → G H)
    (hs : ∀ i x H H', i < n → Pv i H → Y i H x H' → F (Pv (i + 1)) x H') (hd : ∀ H, Pv n H → Qd H) :
    ∃ W : Nat → Nat → Hp → Prop, (∃ m, W 0 m H1) ∧ ∀ i m H, W i m H →
      (J.stop i H ∧ Qd H) ∨ (J.go i H ∧ ∃ Nx : Hp → Prop, (∀ H', Nx H' → ∃ m', m' < m ∧ W (i + 1) m' H') ∧ ∀ x H', J.yld i H x H' → F Nx x H') := by
  refine ⟨fun i m H => m = n - i ∧ i ≤ n ∧ Pv i H, ⟨n, by simp, Nat.zero_le _, h0⟩, ?_⟩
  rintro i m H ⟨rfl, hi, p⟩
  have q := hG i H hi p
  by_cases hlt : i < n
  · exact .inr ⟨w.goes i H hlt q, Pv (i + 1), fun H' p' => ⟨n - (i + 1), by omega, rfl, hlt, p'⟩, fun x H' y => hs i x H H' hlt p (w.yields i H x H' hlt q y)⟩
  · have e : i = n := by omega
    subst e
    exact .inl ⟨w.stops H q, hd H p⟩
theorem walk_enumT {K : PySem.W.Frag} {a : Addr} {xs : List V} : Walk (Itet K a) xs.length (fun H => SqT K H a xs) (YPair (fun i => some (.int (i : Nat))) (fun i => xs[i]?)) := by
  refine ⟨fun i _ hi q => ⟨xs, xs[i], q, by simp [hi]⟩, fun _ q => ⟨xs, q, rfl⟩, fun i H v H' _ q y => ?_⟩
  obtain ⟨T, x, h1, h2, h3, h4⟩ := y
  exact ⟨T, .int (i : Nat), x, h1, h2, h3, rfl, h4 xs q⟩
end
theorem Paired.snoc {α β : Type} {F : α → β → Prop} {x : α} {y : β} (f : F x y) : ∀ {xs : List α} {ys : List β}, Paired F xs ys → Paired F (xs ++ [x]) (ys ++ [y])
  | _, _, .nil => .cons f .nil
  | _, _, .cons r t => .cons r (Paired.snoc f t)
theorem Paired.app {α β : Type} {F : α → β → Prop} : ∀ {xs zs : List α} {ys us : List β}, Paired F xs ys → Paired F zs us → Paired F (xs ++ zs) (ys ++ us)
  | _, _, _, _, .nil, s => s
  | _, _, _, _, .cons r t, s => .cons r (Paired.app t s)
theorem Paired.at {α β : Type} {F : α → β → Prop} : ∀ {xs : List α} {ys : List β} {i : Nat} {x : α}, Paired F xs ys → xs[i]? = some x → ∃ y, ys[i]? = some y ∧ F x y
  | _, _, _, _, .nil, e => by simp at e
  | _, _, 0, _, .cons r _, e => by simp at e; subst e; exact ⟨_, rfl, r⟩
  | _, _, i + 1, x, .cons _ t, e => by
    obtain ⟨u, h1, h2⟩ := Paired.at (i := i) (x := x) t (by simpa using e)
    exact ⟨u, by simpa using h1, h2⟩
theorem Paired.at2 {α β : Type} {F : α → β → Prop} : ∀ {xs : List α} {ys : List β} {i : Nat} {y : β}, Paired F xs ys → ys[i]? = some y → ∃ x, xs[i]? = some x ∧ F x y
  | _, _, _, _, .nil, e => by simp at e
  | _, _, 0, _, .cons r _, e => by simp at e; subst e; exact ⟨_, rfl, r⟩
  | _, _, i + 1, x, .cons _ t, e => by
    obtain ⟨u, h1, h2⟩ := Paired.at2 (i := i) (y := x) t (by simpa using e)
    exact ⟨u, by simpa using h1, h2⟩
theorem PairedIn.map {α β : Type} {F G : α → β → Prop} : ∀ {l₁ : List α} {l₂ : List β}, Paired F l₁ l₂ → (∀ a b, a ∈ l₁ → F a b → G a b) → Paired G l₁ l₂
  | _, _, .nil, _ => .nil
  | _, _, .cons r t, f => .cons (f _ _ List.mem_cons_self r) (PairedIn.map t fun a b h => f a b (List.mem_cons_of_mem _ h))
end L2
namespace Toy
open PySem L2
def prs (k : Nat) : List (List Int) → List (Int × Int)
  | [] => []
  | r :: R => r.map (fun x => ((k : Int), x)) ++ prs (k + 1) R
theorem prs_snoc : ∀ (k : Nat) (A : List (List Int)) (r : List Int), prs k (A ++ [r]) = prs k A ++ r.map fun x => (((k + A.length : Nat) : Int), x)
  | k, [], r => by simp [prs]
  | k, a :: A, r => by
    show a.map _ ++ prs (k + 1) (A ++ [r]) = (a.map _ ++ prs (k + 1) A) ++ _
    rw [prs_snoc (k + 1) A r, List.append_assoc]
    have e : k + 1 + A.length = k + (a :: A).length := by simp; omega
    rw [e]
theorem prs_len : ∀ (k : Nat) (A : List (List Int)), (∀ r ∈ A, r.length ≤ 6) → (prs k A).length ≤ 6 * A.length
  | k, [], _ => by simp [prs]
  | k, a :: A, h => by
    have ih := prs_len (k + 1) A fun r hr => h r (List.mem_cons_of_mem _ hr)
    have := h a List.mem_cons_self
    simp [prs]
    omega
def vP (p : Int × Int) : List V := [.int p.1, .int p.2]
end Toy
namespace Toy
open PySem L2
/-! ### data -/
def vI (ns : List Int) : List V := ns.map V.int
def asc (ns : List Int) (n : Nat) : List Int := ((List.range n).filter fun (i : Nat) => decide ((i : Int) ∈ ns)).map fun (i : Nat) => (i : Int)
def isW (n : Nat) (x : Int) : Bool := decide (0 ≤ x) && decide (x < (n : Int))
/-- a list or a tuple of the vI ns -/
def Sq (K : PySem.W.Frag) (H : Hp) (a : Addr) (ns : List Int) : Prop := SqL K H a (vI ns) ∨ SqT K H a (vI ns)
theorem inV_vI (x : Int) : ∀ ns : List Int, inV (.int x) (vI ns) = decide (x ∈ ns)
  | [] => by simp [inV, vI]
  | y :: r => by
    have ih := inV_vI x r
    show ((y == x) || inV (.int x) (vI r)) = decide (x ∈ y :: r)
    rw [ih]
    by_cases h : y = x
    · subst h
      simp
    · have h' : ¬ x = y := fun z => h z.symm
      simp [h, h']
theorem flat_vI : ∀ ns : List Int, (vI ns).all flatV = true
  | [] => rfl
  | _ :: r => flat_vI r
theorem Sq.same {K : PySem.W.Frag} {H H' : Hp} {a : Addr} {ns : List Int} (s : Same H H') (h : Sq K H a ns) : Sq K H' a ns := by
  rcases h with h | h
  · exact .inl (s.seq h)
  · refine .inr ?_
    rcases h with (h | ⟨o, h⟩) | h
    · exact .inl (.inl (s _ _ h))
    · exact .inl (.inr ⟨o, s _ _ h⟩)
    · exact .inr h
theorem Same.upd {H H' : Hp} {p : Addr} {o : HO} (s : Same H H') (n : H' p = none) : Same H (L2.upd H' p o) := fun b u e => by
  rw [upd_ne (ne_of_none (s b u e) n)]
  exact s b u e
theorem asc_succ (ns : List Int) (i : Nat) : asc ns (i + 1) = if (i : Int) ∈ ns then asc ns i ++ [(i : Int)] else asc ns i := by
  unfold asc
  rw [List.range_succ, List.filter_append]
  by_cases h : (i : Int) ∈ ns
  · rw [if_pos h]
    simp [h]
  · rw [if_neg h]
    simp [h]
theorem asc_len (ns : List Int) (n : Nat) : (asc ns n).length ≤ n := by
  unfold asc
  rw [List.length_map]
  exact Nat.le_trans (List.length_filter_le _ _) (by simp)
theorem yesT {σ : St} {H : Hp} {R : Bool → Hp → Prop} (h : R true H) : tYes σ H R := h
theorem vI_at {ns : List Int} {i : Nat} {y : V} (h : (vI ns)[i]? = some y) : ∃ x, ns[i]? = some x ∧ y = V.int x := by
  unfold vI at h
  rw [List.getElem?_map] at h
  cases e : ns[i]? with
  | none =>
    rw [e] at h
    cases h
  | some x =>
    rw [e] at h
    exact ⟨x, rfl, (Option.some.inj h).symm⟩
theorem take_more {α : Type} : ∀ {l : List α} {i : Nat} {x : α}, l[i]? = some x → l.take (i + 1) = l.take i ++ [x]
  | [], i, x, h => by simp at h
  | a :: l, 0, x, h => by
    have e : a = x := Option.some.inj h
    subst e
    rfl
  | a :: l, i + 1, x, h => by
    have ih := take_more (l := l) (i := i) (x := x) h
    show a :: l.take (i + 1) = a :: l.take i ++ [x]
    rw [ih]
    rfl
/-! ### the text by places -/
def top (i : Nat) : Stmt := PySem.Challenge.pw_murmurline_k10_whole_fits_behind.main.body.getD i (.Pass ⟨0, 0, 0, 0⟩)
abbrev sIsSize : Stmt := top 8
abbrev sCheckSize : Stmt := top 9
abbrev sIsWord : Stmt := top 11
abbrev sAllWords : Stmt := top 12
abbrev sCheckWord : Stmt := top 13
abbrev sAsc : Stmt := top 15
/-! ### promises -/
def spIsWord : Sp := fun vs H Q _ => ∃ (x : Int) (n : Nat), vs = [.int x, .int n] ∧ Q (.bl (isW n x)) H
def spAllWords (K : PySem.W.Frag) : Sp := fun vs H Q _ => ∃ (a : Addr) (ns : List Int) (n : Nat), vs = [.ref a, .int n] ∧ SqL K H a (vI ns) ∧ ns.length < sizeLine ∧ ∀ H', Same H H' → Q (.bl (ns.all (isW n))) H'
def spAsc (K : PySem.W.Frag) : Sp := fun vs H Q _ => ∃ (a : Addr) (ns : List Int) (n : Nat), vs = [.ref a, .int n] ∧ Sq K H a ns ∧ n ≤ 6 ∧ ∀ H' p, Same H H' → H p = none → H' p = some (.lst (vI (asc ns n))) → Q (.ref p) H'
structure Bt (mg : Str → Option Value) : Prop where
  len : mg "len" = none
  range : mg "range" = none
  all : mg "all" = none
  list : mg "list" = none
  tuple : mg "tuple" = none
  enumerate : mg "enumerate" = none
  isinstance : mg "isinstance" = none
  int : mg "int" = none
  bool : mg "bool" = none
  str : mg "str" = none
  abs : mg "abs" = none
section
variable {P : Program} {w : World} {K : PySem.W.Frag} {mg : Str → Option Value} {base : Heap}
theorem scIsWord : FnScope ["word", "size"] ["word", "size"] (defScope sIsWord) := ⟨rfl, rfl, rfl, by decide +kernel, rfl, by decide +kernel, by decide +kernel⟩
theorem ok_isWord {f : Addr} {fd : FuncData} (F : Fun K "is_word" "is_word" sIsWord f fd) : FnOk P w K mg base CX0 1 f fd ["word", "size"] spIsWord := by
  refine F.ok scIsWord (fun vs H Q E h => ?_) (fun cdv A outer s H vs Q E hr h => ?_)
  · obtain ⟨x, n, rfl, _⟩ := h
    rfl
  · obtain ⟨x, n, rfl, k⟩ := h
    refine ⟨_, pss_one (ps_ret (pe_chain op_le op_lt pe_int (pv 0) (pv 1))), ?_⟩
    refine ⟨_, rfl, _, _, rfl, rfl, _, rfl, ?_⟩
    by_cases h0 : (0 : Int) ≤ x
    · rw [decide_eq_true h0]
      refine iteT ⟨_, rfl, _, _, rfl, rfl, ?_⟩
      have e : isW n x = decide (x < (n : Int)) := by unfold isW; rw [decide_eq_true h0]; rfl
      rw [e] at k
      exact k
    · rw [decide_eq_false h0]
      refine iteF ?_
      have e : isW n x = false := by unfold isW; rw [decide_eq_false h0]; rfl
      rw [e] at k
      exact k
theorem scAllWords : FnScope ["words", "size", "word"] ["words", "size"] (defScope sAllWords) := ⟨rfl, rfl, rfl, by decide +kernel, rfl, by decide +kernel, by decide +kernel⟩
theorem ok_allWords {f g : Addr} {fd fdg : FuncData} (F : Fun K "all_words" "all_words" sAllWords f fd) (B : Bt mg) (G : Fun K "is_word" "is_word" sIsWord g fdg) (mgG : mg "is_word" = some (.ref g)) (bG : Binds K fdg ["word", "size"] []) :
    FnOk P w K mg base CX0 2 f fd ["words", "size"] (spAllWords K) := by
  refine F.ok scAllWords (fun vs H Q E h => ?_) (fun cdv A outer s H vs Q E hr h => ?_)
  · obtain ⟨a, ns, n, rfl, _⟩ := h
    rfl
  · obtain ⟨a, ns, n, rfl, hS, hlen, k⟩ := h
    refine ⟨_, pss_one (ps_ret (pe_callB (cr_all rfl) (by rfl) B.all (by decide +kernel) (pa_cons (pe_lc (own := [("word", 2)]) (g := gName 2) (tt := tYes) rfl scAllWords.nd (pi_list (pv 0)) (blkOk_by (own := [("word", 2)]) (N := ["words", "size", "word"]) (sc := defScope sAllWords) (by decide +kernel))
      (fun _ _ _ _ _ => pg_name (i := 2) scAllWords.nd rfl (Or.inl rfl)) (fun _ _ _ _ _ => pts_nil)
      (fun _ _ _ _ _ => pe_call (ok_isWord G) hr rfl mgG G.kp bG .nil pass0 (pa_cons (pv 2) (pa_cons (pv 1) pa_nil)))) pa_nil))), ?_⟩
    refine ⟨_, rfl, a, rfl, ⟨_, hS⟩, fun D hD => ?_⟩
    refine lc_list (K := K) (a := a) (xs := vI ns) (fun i H' => Same H H' ∧ H' D = some (.lst ((ns.take i).map fun x => V.bl (isW n x)))) ⟨Same.upd (Same.refl H) hD, upd_same⟩ (fun i H' _ ⟨s, _⟩ => s.seq hS) ?_ ?_
    · rintro i y H' hi ⟨s, hd⟩
      obtain ⟨x, hx, rfl⟩ := vI_at hi
      refine ⟨rfl, ?_⟩
      refine yesT ?_
      refine iteT ?_
      refine ⟨_, rfl, _, rfl, x, n, rfl, ?_⟩
      refine ⟨_, hd, ?_, ?_, ?_⟩
      · rw [List.length_map]
        exact Nat.lt_of_le_of_lt (List.length_take_le' _ _) hlen
      · exact fun b u e => (ne_of_none e hD) |> fun z => by rw [upd_ne z]; exact s b u e
      · rw [upd_same, take_more hx, List.map_append]
        rfl
    · rintro H' ⟨s, hd⟩
      have el : (vI ns).length = ns.length := List.length_map ..
      rw [el, List.take_length] at hd
      refine ⟨D, ns.map (isW n), rfl, SqL.of ?_, ?_⟩
      · rw [hd, List.map_map]
        rfl
      · have := k H' s
        rw [List.all_map]
        exact this
theorem scIsSize : FnScope ["size"] ["size"] (defScope sIsSize) := ⟨rfl, rfl, rfl, by decide +kernel, rfl, by decide +kernel, by decide +kernel⟩
structure CT (K : PySem.W.Frag) (mg : Str → Option Value) (C : Addr) : Prop where
  mgC : mg "Table" = some (.ref C)
  cl : Cls K C
  rd : ClX.CRead K C (.type "type")
  most : ∃ t, PySem.W.findCls K (.ref C) (.type "type") "MOST" = some (.val (.int 6 t))
  nS : NoAttr K C "size"
  nR : NoAttr K C "_rows"
  nP : NoAttr K C "_pairs"
def spIsSize : Sp := fun vs H Q _ => ∃ n : Int, vs = [.int n] ∧ Q (.bl (decide (1 ≤ n) && decide (n ≤ 6))) H
theorem ok_isSize {f C : Addr} {fd : FuncData} (F : Fun K "is_size" "is_size" sIsSize f fd) (T : CT K mg C) : FnOk P w K mg base CX0 1 f fd ["size"] spIsSize := by
  refine F.ok scIsSize (fun vs H Q E h => ?_) (fun cdv A outer s H vs Q E hr h => ?_)
  · obtain ⟨n, rfl, _⟩ := h
    rfl
  · obtain ⟨n, rfl, k⟩ := h
    obtain ⟨t, hm⟩ := T.most
    refine ⟨_, pss_one (ps_ret (pe_chain op_le op_le pe_int (pv 0) (ClX.pe_cval (pe_glob rfl T.mgC (v := .ref C) rfl)))), ?_⟩
    refine ⟨_, rfl, _, _, rfl, rfl, _, rfl, ?_⟩
    by_cases h0 : (1 : Int) ≤ n
    · rw [decide_eq_true h0] at k ⊢
      refine iteT ⟨C, _, .int 6, _, rfl, T.rd, ⟨hm, _, rfl⟩, _, _, rfl, rfl, ?_⟩
      exact k
    · rw [decide_eq_false h0] at k ⊢
      refine iteF ?_
      exact k
theorem scCheckSize : FnScope ["size"] ["size"] (defScope sCheckSize) := ⟨rfl, rfl, rfl, by decide +kernel, rfl, by decide +kernel, by decide +kernel⟩
def spCheckSize : Sp := fun vs H Q _ => ∃ n : Int, vs = [.int n] ∧ 1 ≤ n ∧ n ≤ 6 ∧ Q .non H
theorem ok_checkSize {f g C : Addr} {fd fdg : FuncData} (F : Fun K "check_size" "check_size" sCheckSize f fd) (T : CT K mg C) (G : Fun K "is_size" "is_size" sIsSize g fdg) (mgG : mg "is_size" = some (.ref g)) (bG : Binds K fdg ["size"] []) :
    FnOk P w K mg base CX0 2 f fd ["size"] spCheckSize := by
  refine F.ok scCheckSize (fun vs H Q E h => ?_) (fun cdv A outer s H vs Q E hr h => ?_)
  · obtain ⟨n, rfl, _⟩ := h
    rfl
  · obtain ⟨n, rfl, h1, h2, k⟩ := h
    refine ⟨_, pss_one (ps_if (pt_not (pt_val (pe_call (ok_isSize G T) hr rfl mgG G.kp bG .nil pass0 (pa_cons (pv 0) pa_nil)))) (pss_one ps_never) pss_nil), ?_⟩
    refine ⟨_, rfl, n, rfl, _, rfl, ?_⟩
    rw [decide_eq_true h1, decide_eq_true h2]
    exact iteF k
theorem scCheckWord : FnScope ["word", "size"] ["word", "size"] (defScope sCheckWord) := ⟨rfl, rfl, rfl, by decide +kernel, rfl, by decide +kernel, by decide +kernel⟩
def spCheckWord : Sp := fun vs H Q _ => ∃ (x : Int) (n : Nat), vs = [.int x, .int n] ∧ isW n x = true ∧ Q .non H
theorem ok_checkWord {f g : Addr} {fd fdg : FuncData} (F : Fun K "check_word" "check_word" sCheckWord f fd) (G : Fun K "is_word" "is_word" sIsWord g fdg) (mgG : mg "is_word" = some (.ref g)) (bG : Binds K fdg ["word", "size"] []) :
    FnOk P w K mg base CX0 2 f fd ["word", "size"] spCheckWord := by
  refine F.ok scCheckWord (fun vs H Q E h => ?_) (fun cdv A outer s H vs Q E hr h => ?_)
  · obtain ⟨x, n, rfl, _⟩ := h
    rfl
  · obtain ⟨x, n, rfl, h1, k⟩ := h
    refine ⟨_, pss_one (ps_if (pt_not (pt_val (pe_call (ok_isWord G) hr rfl mgG G.kp bG .nil pass0 (pa_cons (pv 0) (pa_cons (pv 1) pa_nil))))) (pss_one ps_never) pss_nil), ?_⟩
    refine ⟨_, rfl, _, rfl, x, n, rfl, _, rfl, ?_⟩
    rw [h1]
    exact iteF k
theorem scAsc : FnScope ["words", "size", "word"] ["words", "size"] (defScope sAsc) := ⟨rfl, rfl, rfl, by decide +kernel, rfl, by decide +kernel, by decide +kernel⟩
theorem ok_asc {f : Addr} {fd : FuncData} (F : Fun K "ascending" "ascending" sAsc f fd) (B : Bt mg) : FnOk P w K mg base CX0 1 f fd ["words", "size"] (spAsc K) := by
  refine F.ok scAsc (fun vs H Q E h => ?_) (fun cdv A outer s H vs Q E hr h => ?_)
  · obtain ⟨a, ns, n, rfl, _⟩ := h
    rfl
  · obtain ⟨a, ns, n, rfl, hS, hn, k⟩ := h
    refine ⟨_, pss_one (ps_ret (pe_lc (own := [("word", 2)]) (g := gName 2) (tt := tTest (tOp (rIn K false) (tVar 2) (tVar 0))) rfl scAsc.nd (pi_range1 (by rfl) B.range (pa_cons (pv 1) pa_nil)) (blkOk_by (own := [("word", 2)]) (N := ["words", "size", "word"]) (sc := defScope sAsc) (by decide +kernel))
      (fun _ _ _ _ _ => pg_name (i := 2) scAsc.nd rfl (Or.inl rfl)) (fun _ _ _ _ _ => pts_one (pt_cmpR op_in_seq (pv 2) (pv 0) (by rfl)))
      (fun _ _ _ _ _ => pv 2))), ?_⟩
    refine ⟨_, rfl, n, rfl, by omega, by omega, fun D hD => ?_⟩
    refine lc_range (lo := 0) (n := n) (fun i H' => Same H H' ∧ H' D = some (.lst (vI (asc ns i)))) ⟨Same.upd (Same.refl H) hD, upd_same⟩ ?_ ?_
    · rintro i H' hi ⟨s, hd⟩
      refine ⟨rfl, ?_⟩
      refine ⟨_, rfl, _, rfl, a, _, rfl, hS.same s, rfl, flat_vI ns, _, rfl, ?_⟩
      have e0 : (0 : Int) + (i : Int) = (i : Int) := by omega
      rw [e0]
      show if (if false = true then !inV (.int (i : Int)) (vI ns) else inV (.int (i : Int)) (vI ns)) = true then _ else _
      rw [if_neg Bool.false_ne_true, inV_vI, asc_succ]
      by_cases hm : (i : Int) ∈ ns
      · rw [decide_eq_true hm, if_pos hm]
        refine iteT ?_
        refine ⟨_, rfl, _, hd, ?_, ?_, ?_⟩
        · show (vI (asc ns i)).length < sizeLine
          unfold vI
          rw [List.length_map]
          exact Nat.lt_of_le_of_lt (asc_len ns i) (Nat.lt_of_lt_of_le (Nat.lt_of_lt_of_le hi hn) (by decide))
        · exact fun b u e => (ne_of_none e hD) |> fun z => by rw [upd_ne z]; exact s b u e
        · rw [upd_same]
          unfold vI
          rw [List.map_append]
          rfl
      · rw [decide_eq_false hm, if_neg hm]
        exact iteF ⟨s, hd⟩
    · rintro H' ⟨s, hd⟩
      exact k H' D s hD hd
end
end Toy
namespace Toy
open PySem L2
abbrev RowsT (H : Hp) (ts : List V) (R : List (List Int)) : Prop := Paired (fun v r => ∃ t, v = V.ref t ∧ H t = some (.tup (vI r))) ts R
abbrev RowsL (H : Hp) (ls : List V) (R : List (List Int)) : Prop := Paired (fun v r => ∃ t, v = V.ref t ∧ H t = some (.lst (vI r))) ls R
abbrev PairsT (H : Hp) (qs : List V) (P : List (Int × Int)) : Prop := Paired (fun v p => ∃ t, v = V.ref t ∧ H t = some (.tup (vP p))) qs P
theorem RowsT.same {H H' : Hp} {ts R} (s : Same H H') (h : RowsT H ts R) : RowsT H' ts R := L2.Paired.mapP h fun _ _ ⟨t, e, q⟩ => ⟨t, e, s _ _ q⟩
theorem RowsL.same {H H' : Hp} {ts R} (s : Same H H') (h : RowsL H ts R) : RowsL H' ts R := L2.Paired.mapP h fun _ _ ⟨t, e, q⟩ => ⟨t, e, s _ _ q⟩
theorem PairsT.same {H H' : Hp} {ts R} (s : Same H H') (h : PairsT H ts R) : PairsT H' ts R := L2.Paired.mapP h fun _ _ ⟨t, e, q⟩ => ⟨t, e, s _ _ q⟩
/-- the attributes of a table -/
def tf (n : Nat) (tr tp : Addr) : List (Str × V) := [("size", V.int n), ("_rows", V.ref tr), ("_pairs", V.ref tp)]
theorem sr_ : ¬ (("size" : Str) = "_rows") := by decide +kernel
theorem sp_ : ¬ (("size" : Str) = "_pairs") := by decide +kernel
theorem rp_ : ¬ (("_rows" : Str) = "_pairs") := by decide +kernel
theorem rs_ : ¬ (("_rows" : Str) = "size") := by decide +kernel
theorem ps_' : ¬ (("_pairs" : Str) = "size") := by decide +kernel
theorem pr_ : ¬ (("_pairs" : Str) = "_rows") := by decide +kernel
theorem tf_1 (n : Nat) : putF "size" (.int n) [] = ([("size", V.int n)] : List (Str × V)) := rfl
theorem tf_2 (n : Nat) (tr : Addr) : putF "_rows" (.ref tr) ([("size", V.int n)] : List (Str × V)) = ([("size", V.int n), ("_rows", V.ref tr)] : List (Str × V)) := by
  show (if ("size" : Str) = "_rows" then [(("size" : Str), V.ref tr)] else (("size" : Str), V.int n) :: putF "_rows" (V.ref tr) []) = ([("size", V.int n), ("_rows", V.ref tr)] : List (Str × V))
  rw [if_neg sr_]
  rfl
theorem tf_3 (n : Nat) (tr tp : Addr) : putF "_pairs" (.ref tp) ([("size", V.int n), ("_rows", V.ref tr)] : List (Str × V)) = tf n tr tp := by
  show (if ("size" : Str) = "_pairs" then _ else (("size" : Str), V.int n) :: (if ("_rows" : Str) = "_pairs" then _ else (("_rows" : Str), V.ref tr) :: putF "_pairs" (V.ref tp) [])) = tf n tr tp
  rw [if_neg sp_, if_neg rp_]
  rfl
theorem tf_size (n : Nat) (tr tp : Addr) : (tf n tr tp).lookup ("size" : Str) = some (.int n) := by simp [tf, List.lookup]
theorem tf_rows (n : Nat) (tr tp : Addr) : (tf n tr tp).lookup ("_rows" : Str) = some (.ref tr) := by
  have h : (("_rows" : Str) == "size") = false := by simpa using rs_
  simp [tf, List.lookup, h]
theorem tf_pairs (n : Nat) (tr tp : Addr) : (tf n tr tp).lookup ("_pairs" : Str) = some (.ref tp) := by
  have h : (("_pairs" : Str) == "size") = false := by simpa using ps_'
  have h2 : (("_pairs" : Str) == "_rows") = false := by simpa using pr_
  simp [tf, List.lookup, h, h2]
theorem tf_no (n : Nat) (tr tp : Addr) {m : Str} (h1 : (m == "size") = false) (h2 : (m == "_rows") = false) (h3 : (m == "_pairs") = false) : (tf n tr tp).lookup m = none := by
  simp [tf, List.lookup, h1, h2, h3]
theorem RowsT.updL {H : Hp} {D : Addr} {xs ys : List V} {ts R} (h : RowsT H ts R) (hd : H D = some (.lst xs)) : RowsT (upd H D (.lst ys)) ts R :=
  L2.Paired.mapP h fun _ _ ⟨t, e, q⟩ => ⟨t, e, by rw [upd_ne (ne_of q hd (fun z => nomatch z))]; exact q⟩
theorem PairsT.updL {H : Hp} {D : Addr} {xs ys : List V} {ts R} (h : PairsT H ts R) (hd : H D = some (.lst xs)) : PairsT (upd H D (.lst ys)) ts R :=
  L2.Paired.mapP h fun _ _ ⟨t, e, q⟩ => ⟨t, e, by rw [upd_ne (ne_of q hd (fun z => nomatch z))]; exact q⟩
theorem Same.updN {H H' : Hp} {D : Addr} {o : HO} (s : Same H H') (hD : H D = none) : Same H (L2.upd H' D o) := fun b u e => by
  rw [upd_ne (ne_of_none e hD)]
  exact s b u e
theorem Same.new {H : Hp} {D : Addr} {o : HO} (hD : H D = none) : Same H (L2.upd H D o) := Same.updN (Same.refl H) hD
theorem vI_len (ns : List Int) : (vI ns).length = ns.length := List.length_map ..
/-- a table stands at p, its rows R -/
def Tab (C : Addr) (H : Hp) (p : Addr) (R : List (List Int)) : Prop :=
  ∃ (dx tr tp : Addr) (ts qs : List V), H p = some (.ins C dx (tf R.length tr tp)) ∧ H dx = some (.own p) ∧ H tr = some (.tup ts) ∧ RowsT H ts R ∧ H tp = some (.tup qs) ∧ PairsT H qs (prs 0 R) ∧
    1 ≤ R.length ∧ R.length ≤ 6 ∧ ∀ r ∈ R, r.length ≤ 6
theorem Tab.same {C : Addr} {H H' : Hp} {p : Addr} {R} (s : Same H H') (h : Tab C H p R) : Tab C H' p R := by
  obtain ⟨dx, tr, tp, ts, qs, h1, h2, h3, h4, h5, h6, h7⟩ := h
  exact ⟨dx, tr, tp, ts, qs, s _ _ h1, s _ _ h2, s _ _ h3, RowsT.same s h4, s _ _ h5, PairsT.same s h6, h7⟩
abbrev sTable : Stmt := top 16
abbrev sInit : Stmt := inClass sTable 1
/-- the given rows: each a list of words -/
def spInit (K : PySem.W.Frag) (C : Addr) : Sp := fun vs H Q _ => ∃ (p dx l : Addr) (ls : List V) (G : List (List Int)), vs = [.ref p, .ref l] ∧ H p = some (.ins C dx []) ∧ H dx = some (.own p) ∧ H l = some (.lst ls) ∧ RowsL H ls G ∧
  1 ≤ G.length ∧ G.length ≤ 6 ∧ (∀ g ∈ G, g.length < sizeLine ∧ g.all (isW G.length) = true) ∧
  ∀ H', (∀ b o, b ≠ p → H b = some o → H' b = some o) → Tab C H' p (G.map fun g => asc g G.length) → Q .non H'
section
variable {P : Program} {w : World} {K : PySem.W.Frag} {mg : Str → Option Value} {base : Heap}
structure Gs (K : PySem.W.Frag) (mg : Str → Option Value) (C : Addr) : Prop where
  B : Bt mg
  T : CT K mg C
  isW_ : ∃ f fd, Fun K "is_word" "is_word" sIsWord f fd ∧ mg "is_word" = some (.ref f) ∧ Binds K fd ["word", "size"] []
  allW : ∃ f fd, Fun K "all_words" "all_words" sAllWords f fd ∧ mg "all_words" = some (.ref f) ∧ Binds K fd ["words", "size"] []
  isS : ∃ f fd, Fun K "is_size" "is_size" sIsSize f fd ∧ mg "is_size" = some (.ref f) ∧ Binds K fd ["size"] []
  chS : ∃ f fd, Fun K "check_size" "check_size" sCheckSize f fd ∧ mg "check_size" = some (.ref f) ∧ Binds K fd ["size"] []
  chW : ∃ f fd, Fun K "check_word" "check_word" sCheckWord f fd ∧ mg "check_word" = some (.ref f) ∧ Binds K fd ["word", "size"] []
  asc : ∃ f fd, Fun K "ascending" "ascending" sAsc f fd ∧ mg "ascending" = some (.ref f) ∧ Binds K fd ["words", "size"] []
theorem scInit : FnScope ["self", "rows", "size", "index", "row", "told", "out"] ["self", "rows"] (defScope sInit) := ⟨rfl, rfl, rfl, by decide +kernel, rfl, by decide +kernel, by decide +kernel⟩
theorem ok_init {f C : Addr} {fd : FuncData} (F : Fun K "__init__" "Table.__init__" sInit f fd) (S : Gs K mg C) : FnOk P w K mg base CX0 3 f fd ["self", "rows"] (spInit K C) := by
  obtain ⟨fW, fdW, FW, mW, bW⟩ := S.isW_
  obtain ⟨fA, fdA, FA, mA, bA⟩ := S.allW
  obtain ⟨fI, fdI, FI, mI, bI⟩ := S.isS
  obtain ⟨fC, fdC, FC, mC, bC⟩ := S.chS
  obtain ⟨fS, fdS, FS, mS, bS⟩ := S.asc
  refine F.ok scInit (fun vs H Q E h => ?_) (fun cdv A outer s H vs Q E hr h => ?_)
  · obtain ⟨p, dx, l, ls, G, rfl, _⟩ := h
    rfl
  · obtain ⟨p, dx, l, ls, G, rfl, hp, hdx, hl, hR, g1, g6, gG, k⟩ := h
    have hr1 : Room 1 _ := hr.mono (by decide)
    refine ⟨_, pss_cons (ps_set (i := 2) scInit.nd rfl (Or.inr rfl) (pe_callB call_len_seq (by rfl) S.B.len PySem.boot_len (pa_cons (pv 1) pa_nil)))
      (pss_cons (ps_expr (pe_call (ok_checkSize FC S.T FI mI bI) hr rfl mC FC.kp bC .nil pass0 (pa_cons (pv 2) pa_nil)))
      (pss_cons (ps_for PassesOwn.never rfl (pi_enum (by rfl) S.B.enumerate (pa_cons (pv 1) pa_nil)) (pg_tup (by rfl) (pgs_cons (pg_name (i := 3) scInit.nd rfl (Or.inl rfl)) (pgs_cons (pg_name (i := 4) scInit.nd rfl (Or.inl rfl)) pgs_nil)))
        (pss_one (ps_if (pt_not (pt_val (pe_call (ok_allWords FA S.B FW mW bW) hr rfl mA FA.kp bA .nil pass0 (pa_cons (pv 4) (pa_cons (pv 2) pa_nil))))) (pss_one ps_never) pss_nil)))
      (pss_cons (ps_fld (pv 0) (pv 2) rfl)
      (pss_cons (ps_fld (pv 0) (pe_callTy call_tuple_of (by rfl) S.B.tuple (by decide +kernel) (pa_cons
        (pe_lc (own := [("row", 4)]) (g := gName 4) (tt := tYes) rfl scInit.nd (pi_list (pv 1)) (blkOk_by (own := [("row", 4)]) (N := ["self", "rows", "size", "index", "row", "told", "out"]) (sc := defScope sInit) (by decide +kernel))
          (fun _ _ _ _ _ => pg_name (i := 4) scInit.nd rfl (Or.inl rfl)) (fun _ _ _ _ _ => pts_nil)
          (te := tCB (fun xs H Q => ∃ p ys, xs = [.ref p] ∧ ((SqL K H p ys ∧ ∀ l, H l = none → Q (.ref l) (upd H l (.tup ys))) ∨ (SqT K H p ys ∧ Q (.ref p) H))) (tCons (tCall (spAsc K) [] E0 (tCons (tVar 4) (tCons (tVar 2) tNil))) tNil))
          (fun _ _ _ _ _ => pe_callTy call_tuple_of (by rfl) S.B.tuple (by decide +kernel) (pa_cons (pe_call (ok_asc FS S.B) hr1 rfl mS FS.kp bS .nil pass0 (pa_cons (pv 4) (pa_cons (pv 2) pa_nil))) pa_nil))) pa_nil)) rfl)
      (pss_one (ps_fld (pv 0) (pe_callTy call_tuple_of (by rfl) S.B.tuple (by decide +kernel) (pa_cons
        (pe_lc2 (own := [("told", 5), ("row", 4), ("out", 6)]) (vs1 := [6]) (tt := tYes) (tt1 := tYes) (g := gTup K 2 (gCons (gName 5) (gCons (gName 4) gNil))) (g1 := gName 6) (wi1 := iTup K (tVar 4)) rfl scInit.nd (pi_enumT (by rfl) S.B.enumerate (pa_cons (pe_fld (pv 0) rfl) pa_nil))
          (blkOk_by (own := [("told", 5), ("row", 4), ("out", 6)]) (N := ["self", "rows", "size", "index", "row", "told", "out"]) (sc := defScope sInit) (by decide +kernel)) (by decide)
          (fun _ _ _ _ _ => pg_tup (by rfl) (pgs_cons (pg_name (i := 5) scInit.nd rfl (Or.inl rfl)) (pgs_cons (pg_name (i := 4) scInit.nd rfl (Or.inl rfl)) pgs_nil))) (fun _ _ _ _ _ => pts_nil)
          (fun _ _ _ _ _ => pi_tup (pv 4)) (fun _ _ _ _ _ => pg_name (i := 6) scInit.nd rfl (Or.inl rfl)) (fun _ _ _ _ _ => pts_nil)
          (fun _ _ _ _ _ => pe_tup (pa_cons (pv 5) (pa_cons (pv 6) pa_nil)))) pa_nil)) rfl)))))), ?_⟩
    have el : ls.length = G.length := Paired.length hR
    rw [← el] at g1 g6 gG k
    refine ⟨_, rfl, l, ls, rfl, .inl (SqL.of hl), ?_⟩
    refine ⟨_, rfl, (ls.length : Int), rfl, by omega, by omega, ?_⟩
    refine ⟨_, rfl, l, ls, rfl, SqL.of hl, ?_⟩
    refine for_it (walk_enum (K := K) (a := l) (xs := ls)) (fun i σ H' => ∃ v3 v4, σ = [some (.ref p), some (.ref l), some (.int (ls.length : Int)), v3, v4, none, none] ∧ Same H H') ⟨none, none, rfl, Same.refl H⟩ (fun i σ H' _ ⟨_, _, _, s⟩ => SqL.of (s _ _ hl)) ?_ ?_
    · rintro i x σ H1 H2 hi ⟨v3, v4, rfl, s1⟩ ⟨T, a, b, rfl, hT, rfl, ha, hb⟩
      cases (Option.some.inj ha)
      obtain ⟨g, hg, t, rfl, ht⟩ := L2.Paired.at (RowsL.same s1 hR) hb
      have s2 : Same H (upd H1 T (.tup [.int (i : Nat), .ref t])) := Same.upd s1 hT
      refine ⟨T, _, rfl, SqT.of upd_same, rfl, _, _, rfl, _, _, rfl, rfl, ?_⟩
      have tT : t ≠ T := ne_of_none ht hT
      obtain ⟨gl, ga⟩ := gG g (List.mem_of_getElem? hg)
      refine ⟨_, rfl, _, rfl, t, g, ls.length, rfl, SqL.of (by rw [upd_ne tT]; exact ht), gl, fun H3 s3 => ⟨_, rfl, ?_⟩⟩
      rw [ga]
      exact iteF ⟨_, _, rfl, s2.trans s3⟩
    · rintro σ H1 ⟨v3, v4, rfl, s1⟩
      have hp1 := s1 _ _ hp
      have hdx1 := s1 _ _ hdx
      -- self.size = size
      refine ⟨_, rfl, _, rfl, p, C, dx, [], rfl, hp1, S.T.cl, S.T.nS, (by show 0 < 1000; decide), ?_⟩
      rw [tf_1]
      generalize hHa : upd H1 p (.ins C dx [(("size" : Str), V.int (ls.length : Int))]) = Ha
      have kA : ∀ b o, b ≠ p → H b = some o → Ha b = some o := fun b o ne e => by rw [← hHa, upd_ne ne]; exact s1 _ _ e
      have pA : Ha p = some (.ins C dx [(("size" : Str), V.int (ls.length : Int))]) := by rw [← hHa, upd_same]
      have npl : l ≠ p := ne_of hl hp (fun z => nomatch z)
      have npd : dx ≠ p := ne_of hdx hp (fun z => nomatch z)
      have lA := kA _ _ npl hl
      have RA : RowsL Ha ls G := L2.Paired.mapP hR fun _ _ ⟨t, e, q⟩ => ⟨t, e, kA _ _ (ne_of q hp (fun z => nomatch z)) q⟩
      -- self._rows = tuple([tuple(ascending(row, size)) for row in rows])
      refine ⟨_, rfl, l, rfl, ⟨_, SqL.of lA⟩, fun D hD => ?_⟩
      refine lc_list (K := K) (a := l) (xs := ls) (fun i H' => Same Ha H' ∧ ∃ ts, H' D = some (.lst ts) ∧ RowsT H' ts ((G.take i).map fun g => Toy.asc g ls.length)) ⟨Same.new hD, [], upd_same, .nil⟩ (fun i H' _ ⟨s, _⟩ => SqL.of (s _ _ lA)) ?_ ?_
      · rintro i y H2 hi ⟨s2, ts, hd2, R2⟩
        obtain ⟨g, hg, t, rfl, ht⟩ := L2.Paired.at (RowsL.same s2 RA) hi
        refine ⟨rfl, yesT (iteT ?_)⟩
        refine ⟨_, rfl, _, rfl, t, g, ls.length, rfl, .inl (SqL.of ht), g6, fun H3 q s3 hq0 hq => ?_⟩
        refine ⟨q, _, rfl, .inl ⟨SqL.of hq, fun u hu => ?_⟩⟩
        have hd3 := s3 _ _ hd2
        have nDu : D ≠ u := ne_of_none hd3 hu
        have hd4 : upd H3 u (.tup (vI (Toy.asc g ls.length))) D = some (.lst ts) := by rw [upd_ne nDu]; exact hd3
        refine ⟨ts, hd4, ?_, ?_, ts ++ [.ref u], upd_same, ?_⟩
        · rw [Paired.length R2, List.length_map]
          refine Nat.lt_of_le_of_lt (List.length_take_le' _ _) (Nat.lt_of_le_of_lt (?_ : _ ≤ 6) (by decide))
          omega
        · exact Same.updN (Same.upd (s2.trans s3) hu) hD
        · rw [take_more hg, List.map_append]
          refine L2.Paired.snoc ⟨u, rfl, by rw [upd_ne nDu.symm, upd_same]⟩ ?_
          exact RowsT.updL (RowsT.same ((s3).trans (Same.new hu)) R2) hd4
      · rintro H2 ⟨s2, ts, hd2, R2⟩
        rw [el, List.take_length] at R2
        refine ⟨D, ts, rfl, .inl ⟨SqL.of hd2, fun tr htr => ?_⟩⟩
        have sC : Same Ha (upd H2 tr (.tup ts)) := Same.upd s2 htr
        have R3 : RowsT (upd H2 tr (.tup ts)) ts (G.map fun g => Toy.asc g G.length) := RowsT.same (Same.new htr) R2
        have t3 : (upd H2 tr (.tup ts)) tr = some (.tup ts) := upd_same
        generalize (upd H2 tr (.tup ts)) = Hc at sC R3 t3
        refine ⟨_, rfl, p, C, dx, _, rfl, sC _ _ pA, S.T.cl, S.T.nR, (by show 1 < 1000; decide), ?_⟩
        rw [tf_2]
        rw [el] at k g6 g1
        rw [el] at *
        have kC : ∀ b o, b ≠ p → H b = some o → Hc b = some o := fun b o ne e => sC _ _ (kA b o ne e)
        have pC : ∀ b o, b ≠ p → Hc b = some o → upd Hc p (.ins C dx [(("size" : Str), V.int (G.length : Int)), (("_rows" : Str), V.ref tr)]) b = some o := fun b o ne e => by rw [upd_ne ne]; exact e
        have p0 := sC _ _ pA
        have R4 : RowsT (upd Hc p (.ins C dx [(("size" : Str), V.int (G.length : Int)), (("_rows" : Str), V.ref tr)])) ts (G.map fun g => Toy.asc g G.length) :=
          L2.Paired.mapP R3 fun _ _ ⟨t, e, q⟩ => ⟨t, e, pC _ _ (ne_of q p0 (fun z => nomatch z)) q⟩
        have t4 := pC _ _ (ne_of t3 p0 (fun z => nomatch z)) t3
        have kD : ∀ b o, b ≠ p → H b = some o → upd Hc p (.ins C dx [(("size" : Str), V.int (G.length : Int)), (("_rows" : Str), V.ref tr)]) b = some o := fun b o ne e => pC _ _ ne (kC _ _ ne e)
        have pD : upd Hc p (.ins C dx [(("size" : Str), V.int (G.length : Int)), (("_rows" : Str), V.ref tr)]) p = some (.ins C dx [(("size" : Str), V.int (G.length : Int)), (("_rows" : Str), V.ref tr)]) := upd_same
        generalize upd Hc p (.ins C dx [(("size" : Str), V.int (G.length : Int)), (("_rows" : Str), V.ref tr)]) = Hd at R4 t4 kD pD
        have lkR : List.lookup ("_rows" : Str) ([(("size" : Str), V.int (G.length : Int)), (("_rows" : Str), V.ref tr)] : List (Str × V)) = some (.ref tr) := by
          have h : (("_rows" : Str) == "size") = false := by simpa using rs_
          simp [List.lookup, h]
        -- self._pairs = ..
        have lR : (G.map fun g => Toy.asc g G.length).length = G.length := List.length_map ..
        have r6 : ∀ r ∈ (G.map fun g => Toy.asc g G.length), r.length ≤ 6 := fun r hr => by
          obtain ⟨g, _, rfl⟩ := List.mem_map.mp hr
          exact Nat.le_trans (asc_len _ _) g6
        generalize (G.map fun g => Toy.asc g G.length) = R at k R4 lR r6
        have lts : ts.length = R.length := Paired.length R4
        refine ⟨_, rfl, p, C, dx, _, _, rfl, pD, S.T.cl, S.T.nR, lkR, tr, ts, rfl, SqT.of t4, fun D2 hD2 => ?_⟩
        have nP6 : ∀ i, (prs 0 (R.take i)).length ≤ 36 := fun i => by
          have h1 := prs_len 0 (R.take i) fun r hr => r6 r (List.mem_of_mem_take hr)
          have h2 : (R.take i).length ≤ R.length := List.length_take_le' _ _
          omega
        refine lc2_out (walk_enumT (K := K) (a := tr) (xs := ts)) (fun i H' => Same Hd H' ∧ ∃ qs, H' D2 = some (.lst qs) ∧ PairsT H' qs (prs 0 (R.take i))) ⟨Same.new hD2, [], upd_same, .nil⟩ (fun i H' _ ⟨s, _⟩ => SqT.of (s _ _ t4)) ?_ ?_
        · rintro i x H4 H5 hi ⟨s5, qs, hq, hP⟩ ⟨T, a, b, rfl, hT, rfl, ha, hb⟩
          cases (Option.some.inj ha)
          obtain ⟨r, hr0, t, rfl, ht⟩ := L2.Paired.at (RowsT.same s5 R4) hb
          have r6' := r6 r (List.mem_of_getElem? hr0)
          have nDT : D2 ≠ T := ne_of_none hq hT
          have s6 := Same.new (H := H4) (o := .tup [.int (i : Nat), .ref t]) hT
          refine ⟨T, _, rfl, SqT.of upd_same, rfl, _, _, rfl, _, _, rfl, rfl, ?_⟩
          refine ⟨rfl, yesT (iteT ?_)⟩
          refine ⟨_, rfl, t, rfl, ⟨_, SqT.of (s6 _ _ ht)⟩, ?_⟩
          refine lc2_in (walk_tup (K := K) (a := t) (xs := vI r)) (fun j H' => Same Hd H' ∧ H' t = some (.tup (vI r)) ∧ ∃ qs, H' D2 = some (.lst qs) ∧ PairsT H' qs (prs 0 (R.take i) ++ (r.take j).map fun x => ((i : Int), x))) ?_ (fun j H' _ ⟨_, h, _⟩ => SqT.of h) ?_ ?_
          · refine ⟨s5.trans s6, s6 _ _ ht, qs, s6 _ _ hq, ?_⟩
            rw [List.take_zero, List.map_nil, List.append_nil]
            exact PairsT.same s6 hP
          · rintro j x H6 H7 hj ⟨s7, ht7, qs7, hq7, hP7⟩ ⟨rfl, hx⟩
            obtain ⟨y, hy, rfl⟩ := vI_at hx
            refine ⟨rfl, yesT (iteT ?_)⟩
            refine ⟨_, rfl, _, rfl, (by show 2 ≤ sizeLine; decide), fun u hu => ?_⟩
            have nDu : D2 ≠ u := ne_of_none hq7 hu
            have s8 := Same.new (H := H7) (o := .tup [.int (i : Int), .int y]) hu
            have hq8 := s8 _ _ hq7
            have ntD : t ≠ D2 := ne_of ht7 hq7 (fun z => nomatch z)
            refine ⟨qs7, hq8, ?_, Same.updN (s7.trans s8) hD2, by rw [upd_ne ntD]; exact s8 _ _ ht7, qs7 ++ [.ref u], upd_same, ?_⟩
            · rw [Paired.length hP7, List.length_append, List.length_map]
              have h1 := nP6 i
              have h2 : (r.take j).length ≤ r.length := List.length_take_le' _ _
              exact Nat.lt_of_le_of_lt (by omega : _ ≤ 42) (by decide)
            · rw [take_more hy, List.map_append, ← List.append_assoc]
              refine L2.Paired.snoc ⟨u, rfl, by rw [upd_ne nDu.symm]; exact upd_same⟩ ?_
              exact PairsT.updL (PairsT.same s8 hP7) hq8
          · rintro H6 ⟨s7, ht7, qs7, hq7, hP7⟩
            rw [vI_len, List.take_length] at hP7
            refine ⟨s7, qs7, hq7, ?_⟩
            rw [take_more hr0, prs_snoc]
            have e : (R.take i).length = i := by rw [List.length_take]; have := (List.getElem?_eq_some_iff.mp hr0).1; omega
            rw [e, Nat.zero_add]
            exact hP7
        · rintro H6 ⟨s7, qs, hq, hP⟩
          rw [lts, List.take_length] at hP
          refine ⟨D2, qs, rfl, .inl ⟨SqL.of hq, fun tp htp => ?_⟩⟩
          have sE : Same Hd (upd H6 tp (.tup qs)) := Same.upd s7 htp
          have P3 := PairsT.same (Same.new (H := H6) (o := .tup qs) htp) hP
          have t5 : (upd H6 tp (.tup qs)) tp = some (.tup qs) := upd_same
          generalize (upd H6 tp (.tup qs)) = He at sE P3 t5
          refine ⟨_, rfl, p, C, dx, _, rfl, sE _ _ pD, S.T.cl, S.T.nP, (by show 2 < 1000; decide), ?_⟩
          rw [tf_3]
          have p9 := sE _ _ pD
          refine k _ (fun b o ne e => by rw [upd_ne ne]; exact sE _ _ (kD _ _ ne e)) ⟨dx, tr, tp, ts, qs, by rw [upd_same, lR], ?_, ?_, ?_, ?_, ?_, by omega, by omega, r6⟩
          · rw [upd_ne npd]; exact sE _ _ (kD _ _ npd hdx)
          · rw [upd_ne (ne_of (sE _ _ t4) p9 (fun z => nomatch z))]; exact sE _ _ t4
          · exact L2.Paired.mapP (RowsT.same sE R4) fun _ _ ⟨t, e, q⟩ => ⟨t, e, by rw [upd_ne (ne_of q p9 (fun z => nomatch z))]; exact q⟩
          · rw [upd_ne (ne_of t5 p9 (fun z => nomatch z))]; exact t5
          · exact L2.Paired.mapP P3 fun _ _ ⟨t, e, q⟩ => ⟨t, e, by rw [upd_ne (ne_of q p9 (fun z => nomatch z))]; exact q⟩
end
end Toy
namespace Toy
open PySem L2
abbrev sRows : Stmt := inClass sTable 6
abbrev sPairs : Stmt := inClass sTable 7
abbrev sGetitem : Stmt := inClass sTable 15
/-- new lists -/
abbrev RowsN (H0 H : Hp) (ls : List V) (R : List (List Int)) : Prop := Paired (fun v r => ∃ t, v = V.ref t ∧ H t = some (.lst (vI r)) ∧ H0 t = none) ls R
def spRows (C : Addr) : Sp := fun vs H Q _ => ∃ (p : Addr) (R : List (List Int)), vs = [.ref p] ∧ Tab C H p R ∧ ∀ H' l ls, Same H H' → H l = none → H' l = some (.lst ls) → RowsN H H' ls R → Q (.ref l) H'
def spPairs (C : Addr) : Sp := fun vs H Q _ => ∃ (p : Addr) (R : List (List Int)), vs = [.ref p] ∧ Tab C H p R ∧ ∀ H' l qs, Same H H' → H l = none → H' l = some (.lst qs) → PairsT H' qs (prs 0 R) → Q (.ref l) H'
def spGetitem (C : Addr) : Sp := fun vs H Q _ => ∃ (p : Addr) (R : List (List Int)) (x : Nat) (r : List Int), vs = [.ref p, .int x] ∧ Tab C H p R ∧ R[x]? = some r ∧ ∀ H' l, Same H H' → H l = none → H' l = some (.lst (vI r)) → Q (.ref l) H'
section
variable {P : Program} {w : World} {K : PySem.W.Frag} {mg : Str → Option Value} {base : Heap}
theorem scRows : FnScope ["self", "row"] ["self"] (defScope sRows) := ⟨rfl, rfl, rfl, by decide +kernel, rfl, by decide +kernel, by decide +kernel⟩
theorem ok_rows {f C : Addr} {fd : FuncData} (F : Fun K "rows" "Table.rows" sRows f fd) (S : Gs K mg C) : FnOk P w K mg base CX0 1 f fd ["self"] (spRows C) := by
  refine F.ok scRows (fun vs H Q E h => ?_) (fun cdv A outer s H vs Q E hr h => ?_)
  · obtain ⟨p, R, rfl, _⟩ := h
    rfl
  · obtain ⟨p, R, rfl, hT, k⟩ := h
    obtain ⟨dx, tr, tp, ts, qs, h1, h2, h3, h4, h5, h6, h7, h8, h9⟩ := id hT
    refine ⟨_, pss_one (ps_ret (pe_lc (own := [("row", 1)]) (g := gName 1) (tt := tYes) rfl scRows.nd (pi_tup (pe_fld (pv 0) rfl)) (blkOk_by (own := [("row", 1)]) (N := ["self", "row"]) (sc := defScope sRows) (by decide +kernel))
          (fun _ _ _ _ _ => pg_name (i := 1) scRows.nd rfl (Or.inl rfl)) (fun _ _ _ _ _ => pts_nil)
          (te := tCB (fun xs H Q => ∃ p ys, xs = [.ref p] ∧ (SqL K H p ys ∨ SqT K H p ys) ∧ ∀ l, H l = none → Q (.ref l) (upd H l (.lst ys))) (tCons (tVar 1) tNil))
          (fun _ _ _ _ _ => pe_callTy call_list_of (by rfl) S.B.list (by decide +kernel) (pa_cons (pv 1) pa_nil)))), ?_⟩
    refine ⟨_, rfl, p, C, dx, _, _, rfl, h1, S.T.cl, S.T.nR, tf_rows _ _ _, ?_⟩
    refine ⟨tr, rfl, ⟨_, SqT.of h3⟩, fun D hD => ?_⟩
    refine lc_tup (K := K) (a := tr) (xs := ts) (fun i H' => Same H H' ∧ ∃ ls, H' D = some (.lst ls) ∧ RowsN H H' ls (R.take i) ∧ ∀ v ∈ ls, v ≠ .ref D) ⟨Same.new hD, [], upd_same, .nil, fun _ h => nomatch h⟩ (fun i H' _ ⟨s, _⟩ => SqT.of (s _ _ h3)) ?_ ?_
    · rintro i y H2 hi ⟨s2, ls, hd2, R2, nD⟩
      obtain ⟨r, hr0, t, rfl, ht⟩ := L2.Paired.at (RowsT.same s2 h4) hi
      refine ⟨rfl, yesT (iteT ?_)⟩
      refine ⟨_, rfl, t, _, rfl, .inr (SqT.of ht), fun u hu => ?_⟩
      have nDu : D ≠ u := ne_of_none hd2 hu
      have s3 := Same.new (H := H2) (o := .lst (vI r)) hu
      refine ⟨ls, s3 _ _ hd2, ?_, Same.updN (s2.trans s3) hD, ls ++ [.ref u], upd_same, ?_, ?_⟩
      · rw [Paired.length R2]
        exact Nat.lt_of_le_of_lt (List.length_take_le' _ _) (Nat.lt_of_le_of_lt h8 (by decide))
      · rw [take_more hr0]
        refine L2.Paired.snoc ⟨u, rfl, by rw [upd_ne nDu.symm]; exact upd_same, s2.free hu⟩ ?_
        refine PairedIn.map R2 fun v r' hv ⟨t', e, q, z⟩ => ⟨t', e, ?_, z⟩
        have nt : t' ≠ D := fun z => nD v hv (by rw [e, z])
        rw [upd_ne nt]
        exact s3 _ _ q
      · intro v hv
        rcases List.mem_append.mp hv with hv | hv
        · exact nD v hv
        · rw [List.mem_singleton.mp hv]
          exact fun z => nDu (V.ref.inj z).symm
    · rintro H2 ⟨s2, ls, hd2, R2, _⟩
      rw [Paired.length h4, List.take_length] at R2
      exact k H2 D ls s2 hD hd2 R2
theorem scPairs : FnScope ["self"] ["self"] (defScope sPairs) := ⟨rfl, rfl, rfl, by decide +kernel, rfl, by decide +kernel, by decide +kernel⟩
theorem ok_pairs {f C : Addr} {fd : FuncData} (F : Fun K "pairs" "Table.pairs" sPairs f fd) (S : Gs K mg C) : FnOk P w K mg base CX0 1 f fd ["self"] (spPairs C) := by
  refine F.ok scPairs (fun vs H Q E h => ?_) (fun cdv A outer s H vs Q E hr h => ?_)
  · obtain ⟨p, R, rfl, _⟩ := h
    rfl
  · obtain ⟨p, R, rfl, hT, k⟩ := h
    obtain ⟨dx, tr, tp, ts, qs, h1, h2, h3, h4, h5, h6, h7, h8, h9⟩ := id hT
    refine ⟨_, pss_one (ps_ret (pe_callTy call_list_of (by rfl) S.B.list (by decide +kernel) (pa_cons (pe_fld (pv 0) rfl) pa_nil))), ?_⟩
    refine ⟨_, rfl, p, C, dx, _, _, rfl, h1, S.T.cl, S.T.nP, tf_pairs _ _ _, tp, qs, rfl, .inr (SqT.of h5), fun l hl => ?_⟩
    exact k _ l qs (Same.new hl) hl upd_same (PairsT.same (Same.new hl) h6)
theorem scGetitem : FnScope ["self", "word"] ["self", "word"] (defScope sGetitem) := ⟨rfl, rfl, rfl, by decide +kernel, rfl, by decide +kernel, by decide +kernel⟩
theorem ok_getitem {f C : Addr} {fd : FuncData} (F : Fun K "__getitem__" "Table.__getitem__" sGetitem f fd) (S : Gs K mg C) : FnOk P w K mg base CX0 3 f fd ["self", "word"] (spGetitem C) := by
  obtain ⟨fW, fdW, FW, mW, bW⟩ := S.isW_
  obtain ⟨fC, fdC, FC, mC, bC⟩ := S.chW
  refine F.ok scGetitem (fun vs H Q E h => ?_) (fun cdv A outer s H vs Q E hr h => ?_)
  · obtain ⟨p, R, x, r, rfl, _⟩ := h
    rfl
  · obtain ⟨p, R, x, r, rfl, hT, hx, k⟩ := h
    obtain ⟨dx, tr, tp, ts, qs, h1, h2, h3, h4, h5, h6, h7, h8, h9⟩ := id hT
    obtain ⟨v, hv, t, rfl, ht⟩ := L2.Paired.at2 h4 hx
    refine ⟨_, pss_cons (ps_expr (pe_call (ok_checkWord FC FW mW bW) hr rfl mC FC.kp bC .nil pass0 (pa_cons (pv 1) (pa_cons (pe_fld (pv 0) rfl) pa_nil))))
      (pss_one (ps_ret (pe_callTy call_list_of (by rfl) S.B.list (by decide +kernel) (pa_cons (pe_ix ix_tup (pe_fld (pv 0) rfl) (pv 1) (fun _ _ => rfl)) pa_nil)))), ?_⟩
    have hxl : x < R.length := (List.getElem?_eq_some_iff.mp hx).1
    have hw : isW R.length (x : Int) = true := by unfold isW; rw [decide_eq_true (by omega : (0 : Int) ≤ x), decide_eq_true (by omega : (x : Int) < R.length)]; rfl
    refine ⟨_, rfl, _, rfl, p, C, dx, _, _, rfl, h1, S.T.cl, S.T.nS, tf_size _ _ _, (x : Int), R.length, rfl, hw, ?_⟩
    refine ⟨_, rfl, p, C, dx, _, _, rfl, h1, S.T.cl, S.T.nR, tf_rows _ _ _, _, rfl, tr, ts, x, _, rfl, rfl, SqT.of h3, atI_nat hv, ?_⟩
    refine ⟨t, _, rfl, .inr (SqT.of ht), fun l hl => ?_⟩
    exact k _ l (Same.new hl) hl upd_same
end
end Toy
namespace Toy
open PySem L2
/-! ### the box -/
def off (b : Addr) (H : Hp) : Hp := fun a => if a = b then none else H a
theorem off_ne {b a : Addr} {H : Hp} (h : a ≠ b) : off b H a = H a := by unfold off; rw [if_neg h]
theorem off_at {b : Addr} {H : Hp} : off b H b = none := by unfold off; rw [if_pos rfl]
theorem off_le {b : Addr} {H : Hp} : Same (off b H) H := fun a o e => by
  by_cases h : a = b
  · rw [h, off_at] at e
    cases e
  · rw [off_ne h] at e
    exact e
theorem off_ne_of {b a : Addr} {H : Hp} {o : HO} (e : off b H a = some o) : a ≠ b := fun z => by
  rw [z, off_at] at e
  cases e
theorem off_upd {b : Addr} {H : Hp} {o : HO} : off b (upd H b o) = off b H := by
  funext a
  by_cases h : a = b
  · rw [h, off_at, off_at]
  · rw [off_ne h, off_ne h, upd_ne h]
theorem off_updN {b p : Addr} {H : Hp} {o : HO} (h : p ≠ b) : off b (upd H p o) = upd (off b H) p o := by
  funext a
  by_cases h1 : a = b
  · rw [h1, off_at, upd_ne (Ne.symm h), off_at]
  · rw [off_ne h1]
    by_cases h2 : a = p
    · rw [h2, upd_same, upd_same]
    · rw [upd_ne h2, upd_ne h2, off_ne h1]
theorem Same.off {b : Addr} {H H' : Hp} (s : Same H H') : Same (Toy.off b H) (Toy.off b H') := fun a o e => by
  have n := off_ne_of e
  rw [off_ne n] at e ⊢
  exact s _ _ e
def BoxAt (H : Hp) (b c : Addr) : Prop := ∃ (cs : List Int) (i pend st : Int), H b = some (.lst [.ref c, .int i, .int pend, .int st]) ∧ H c = some (.lst (vI cs)) ∧ c ≠ b ∧ 0 ≤ i ∧ 0 ≤ pend ∧ 0 ≤ st ∧ st < 2147483647 ∧ ∀ x ∈ cs, 0 ≤ x
theorem BoxAt.same {H H' : Hp} {b c : Addr} (s : Same H H') (h : BoxAt H b c) : BoxAt H' b c := by
  obtain ⟨cs, i, p, st, h1, h2, h3⟩ := h
  exact ⟨cs, i, p, st, s _ _ h1, s _ _ h2, h3⟩
theorem BoxAt.upd {H : Hp} {b c l : Addr} {o : HO} (h : BoxAt H b c) (n : l ≠ b) (n' : l ≠ c) : BoxAt (L2.upd H l o) b c := by
  obtain ⟨cs, i, p, st, h1, h2, h3⟩ := h
  exact ⟨cs, i, p, st, by rw [upd_ne (Ne.symm n)]; exact h1, by rw [upd_ne (Ne.symm n')]; exact h2, h3⟩
theorem BoxAt.nec {H : Hp} {b c p : Addr} (h : BoxAt H b c) (n : H p = none) : p ≠ c := by
  obtain ⟨cs, i, p, st, h1, h2, h3⟩ := h
  exact (ne_of_none h2 n).symm
theorem BoxAt.ne {H : Hp} {b c p : Addr} (h : BoxAt H b c) (n : H p = none) : p ≠ b := by
  obtain ⟨cs, i, p, st, h1, h2, h3⟩ := h
  exact (ne_of_none h1 n).symm
abbrev sBox : Stmt := top 18
abbrev sTake : Stmt := top 19
abbrev sWords : Stmt := top 20
abbrev sRowsL : Stmt := top 21
def spBox (K : PySem.W.Frag) : Sp := fun vs H Q _ => ∃ (a : Addr) (ns : List Int), vs = [.ref a] ∧ SqL K H a (vI ns) ∧ ns.length ≤ 63 ∧ ∀ H' b c, Same H H' → H b = none → BoxAt H' b c → Q (.ref b) H'
def spTake : Sp := fun vs H Q _ => ∃ (b c : Addr) (m : Int), vs = [.ref b, .int m] ∧ BoxAt H b c ∧ 0 < m ∧ m < 1073741824 ∧ ∀ (r : Nat) H', (r : Int) < m → BoxAt H' b c → Same (off b H) (off b H') → Q (.int r) H'
section
variable {P : Program} {w : World} {K : PySem.W.Frag} {mg : Str → Option Value} {base : Heap}
theorem scBox : FnScope ["_law_script", "_law_cell"] ["_law_script"] (defScope sBox) := ⟨rfl, rfl, rfl, by decide +kernel, rfl, by decide +kernel, by decide +kernel⟩
theorem cut_vI (ns : List Int) (lo hi : Option Int) : ∃ ms, cutV (vI ns) lo hi = vI ms ∧ ms.length ≤ ns.length := by
  refine ⟨(ns.drop (HT.sIx (vI ns).length 0 lo)).take (HT.sIx (vI ns).length (vI ns).length hi - HT.sIx (vI ns).length 0 lo), ?_, ?_⟩
  · unfold cutV vI
    rw [List.map_take, List.map_drop]
  · rw [List.length_take, List.length_drop]
    omega
theorem ok_box {f : Addr} {fd : FuncData} (F : Fun K "_law_box" "_law_box" sBox f fd) (B : Bt mg) : FnOk P w K mg base CX0 1 f fd ["_law_script"] (spBox K) := by
  refine F.ok scBox (fun vs H Q E h => ?_) (fun cdv A outer s H vs Q E hr h => ?_)
  · obtain ⟨a, ns, rfl, _⟩ := h
    rfl
  · obtain ⟨a, ns, rfl, hS, hlen, k⟩ := h
    refine ⟨_, pss_one (ps_ret (pe_lst (pa_cons (pe_lc (own := [("_law_cell", 1)]) (g := gName 1) (tt := tYes) rfl scBox.nd (pi_list (pe_slice sl_list (pv 0) po_none (po_some pe_int))) (blkOk_by (own := [("_law_cell", 1)]) (N := ["_law_script", "_law_cell"]) (sc := defScope sBox) (by decide +kernel))
          (fun _ _ _ _ _ => pg_name (i := 1) scBox.nd rfl (Or.inl rfl)) (fun _ _ _ _ _ => pts_nil)
          (fun _ _ _ _ _ => pe_callB call_abs (by rfl) B.abs (by decide +kernel) (pa_cons (pe_callTy call_int1 (by rfl) B.int (by decide +kernel) (pa_cons (pv 1) pa_nil)) pa_nil)))
        (pa_cons pe_int (pa_cons pe_int (pa_cons pe_int pa_nil)))))), ?_⟩
    refine ⟨_, rfl, 63, rfl, a, _, rfl, hS, fun p hp => ?_⟩
    obtain ⟨ms, em, lm⟩ := cut_vI ns none (some 63)
    rw [em]
    refine ⟨p, rfl, ⟨_, SqL.of upd_same⟩, fun D hD => ?_⟩
    have s1 := Same.new (H := H) (o := .lst (vI ms)) hp
    have hp1 : upd H p (.lst (vI ms)) p = some (.lst (vI ms)) := upd_same
    have hD0 := s1.free hD
    generalize upd H p (.lst (vI ms)) = H1 at hD s1 hp1
    refine lc_list (K := K) (a := p) (xs := vI ms) (fun i H' => Same H1 H' ∧ ∃ cs, H' D = some (.lst (vI cs)) ∧ cs.length = i ∧ ∀ x ∈ cs, 0 ≤ x) ⟨Same.new hD, [], upd_same, rfl, fun _ h => nomatch h⟩ (fun i H' _ ⟨s, _⟩ => SqL.of (s _ _ hp1)) ?_ ?_
    · rintro i y H2 hi ⟨s2, cs, hd, el, hc⟩
      obtain ⟨x, hx, rfl⟩ := vI_at hi
      have hi' := (List.getElem?_eq_some_iff.mp hx).1
      refine ⟨rfl, yesT (iteT ?_)⟩
      refine ⟨_, rfl, .inl ⟨_, rfl, _, rfl, ?_⟩⟩
      refine ⟨_, hd, ?_, Same.updN s2 hD, cs ++ [if x < 0 then -x else x], ?_, by simp [el], ?_⟩
      · rw [vI_len, el]
        exact Nat.lt_of_le_of_lt (by omega : i ≤ 63) (by decide)
      · rw [upd_same]
        unfold vI
        rw [List.map_append]
        rfl
      · intro z hz
        rcases List.mem_append.mp hz with h | h
        · exact hc z h
        · rw [List.mem_singleton.mp h]
          split <;> omega
    · rintro H2 ⟨s2, cs, hd, el, hc⟩
      refine ⟨by show 4 ≤ sizeLine; decide, fun b hb => ?_⟩
      have nDb : D ≠ b := ne_of_none hd hb
      refine k _ b D (s1.trans (Same.upd s2 hb)) ((s1.trans s2).free hb) ⟨cs, 0, 0, 0, upd_same, by rw [upd_ne nDb]; exact hd, nDb, by decide, by decide, by decide, by decide, hc⟩
theorem scTake : FnScope ["_law_box_here", "_law_many", "_law_digit", "_law_cell"] ["_law_box_here", "_law_many"] (defScope sTake) := ⟨rfl, rfl, rfl, by decide +kernel, rfl, by decide +kernel, by decide +kernel⟩
theorem ok_take {f : Addr} {fd : FuncData} (F : Fun K "_law_take" "_law_take" sTake f fd) (B : Bt mg) : FnOk P w K mg base CX0 1 f fd ["_law_box_here", "_law_many"] spTake := by
  refine F.ok scTake (fun vs H Q E h => ?_) (fun cdv A outer s H vs Q E hr h => ?_)
  · obtain ⟨b, c, m, rfl, _⟩ := h
    rfl
  · obtain ⟨b, c, m, rfl, ⟨cs, i, pd, st, hb, hc, ncb, i0, p0, s0, s1, c0⟩, m0, m1, k⟩ := h
    refine ⟨_, pss_cons (ps_if (pt_cmpR op_gt (pe_ix ix_list (pv 0) pe_int (fun _ _ => rfl)) pe_int (nomark _))
        (pss_cons (ps_set (i := 2) scTake.nd rfl (Or.inl rfl) (pe_op op_mod (pe_callTy call_int1 (by rfl) B.int (by decide +kernel) (pa_cons (pe_ix ix_list (pv 0) pe_int (fun _ _ => rfl)) pa_nil)) (pv 1)))
          (pss_cons (ps_asg (pe_op op_fdiv (pe_ix ix_list (pv 0) pe_int (fun _ _ => rfl)) (pv 1)) (pg_sub (pv 0) pe_int set_list)) (pss_one (ps_ret (pv 2))))) pss_nil)
      (pss_cons (ps_set (i := 3) scTake.nd rfl (Or.inl rfl) pe_int)
      (C8.pss_cut (ps_if (pt_cmpR op_lt (pe_ix ix_list (pv 0) pe_int (fun _ _ => rfl)) (pe_callB call_len_seq (by rfl) B.len PySem.boot_len (pa_cons (pe_ix ix_list (pv 0) pe_int (fun _ _ => rfl)) pa_nil)) (nomark _))
        (pss_cons (ps_set (i := 3) scTake.nd rfl (Or.inl rfl) (pe_ix ix_list (pe_ix ix_list (pv 0) pe_int (fun _ _ => rfl)) (pe_ix ix_list (pv 0) pe_int (fun _ _ => rfl)) (fun _ _ => rfl)))
          (pss_one (ps_asg (pe_op op_add (pe_ix ix_list (pv 0) pe_int (fun _ _ => rfl)) pe_int) (pg_sub (pv 0) pe_int set_list)))) pss_nil)
      (pss_cons (ps_if (pt_cmpR op_ge (pv 3) (pe_op op_pow pe_int pe_int) (nomark _))
        (pss_cons (ps_asg (pe_op op_fdiv (pv 3) (pv 1)) (pg_sub (pv 0) pe_int set_list)) (pss_one (ps_ret (pe_op op_mod (pe_callTy call_int1 (by rfl) B.int (by decide +kernel) (pa_cons (pv 3) pa_nil)) (pv 1))))) pss_nil)
      (pss_cons (ps_asg (pe_op op_mod (pe_callTy call_int1 (by rfl) B.int (by decide +kernel) (pa_cons (pe_op op_add (pe_op op_mul (pe_ix ix_list (pv 0) pe_int (fun _ _ => rfl)) pe_int) (pv 3)) pa_nil)) pe_int) (pg_sub (pv 0) pe_int set_list))
      (pss_one (ps_ret (pe_op op_mod (pe_callTy call_int1 (by rfl) B.int (by decide +kernel) (pa_cons (pe_op op_fdiv (pe_op op_mod (pe_callTy call_int1 (by rfl) B.int (by decide +kernel) (pa_cons (pe_op op_mul (pe_ix ix_list (pv 0) pe_int (fun _ _ => rfl)) pe_int) pa_nil)) pe_int) pe_int) pa_nil)) (pv 1)))))))), ?_⟩
    have box : ∀ (i' pd' st' : Int), 0 ≤ i' → 0 ≤ pd' → 0 ≤ st' → st' < 2147483647 → BoxAt (upd H b (.lst [.ref c, .int i', .int pd', .int st'])) b c := fun i' pd' st' a1 a2 a3 a4 =>
      ⟨cs, i', pd', st', upd_same, by rw [upd_ne ncb]; exact hc, ncb, a1, a2, a3, a4, c0⟩
    have at0 : ∀ (x y z u : V), atI [x, y, z, u] 0 = some x := fun _ _ _ _ => rfl
    have at1 : ∀ (x y z u : V), atI [x, y, z, u] 1 = some y := fun _ _ _ _ => rfl
    have at2 : ∀ (x y z u : V), atI [x, y, z, u] 2 = some z := fun _ _ _ _ => rfl
    have at3 : ∀ (x y z u : V), atI [x, y, z, u] 3 = some u := fun _ _ _ _ => rfl
    refine ⟨_, rfl, b, _, 2, _, rfl, rfl, SqL.of hb, at2 _ _ _ _, _, _, rfl, rfl, _, rfl, ?_⟩
    refine ite2 (fun q => ?_) (fun q => ?_)
    · -- a digit of what is held back
      refine ⟨_, rfl, b, _, 2, _, rfl, rfl, SqL.of hb, at2 _ _ _ _, .inl ⟨_, rfl, _, rfl, _, _, rfl, rfl, m0, ?_⟩⟩
      refine ⟨_, rfl, b, _, 2, _, rfl, rfl, SqL.of hb, at2 _ _ _ _, _, rfl, _, _, rfl, rfl, ⟨m0, m1⟩, ?_⟩
      refine ⟨_, rfl, b, _, 2, 2, rfl, rfl, hb, rfl, ?_⟩
      refine ⟨_, rfl, ?_⟩
      have h1 := Int.emod_nonneg pd (by omega : m ≠ 0)
      have h2 := Int.emod_lt_of_pos pd m0
      obtain ⟨r, hr'⟩ := Int.eq_ofNat_of_zero_le h1
      have z := k r _ (by omega) (box i (pd / m) st i0 (Int.ediv_nonneg p0 (by omega)) s0 s1) (by rw [off_upd]; exact Same.refl _)
      rw [← hr'] at z
      exact z
    · refine ⟨fun σ' H' => ∃ (i' cell : Int), σ' = [some (.ref b), some (.int m), none, some (.int cell)] ∧ 0 ≤ i' ∧ 0 ≤ cell ∧ H' b = some (.lst [.ref c, .int i', .int pd, .int st]) ∧ Same (off b H) (off b H'), ?_, ?_⟩
      · refine ⟨_, rfl, b, _, 1, _, rfl, rfl, SqL.of hb, at1 _ _ _ _, ?_⟩
        refine ⟨_, rfl, b, _, 0, _, rfl, rfl, SqL.of hb, at0 _ _ _ _, c, _, rfl, .inl (SqL.of hc), _, _, rfl, rfl, _, rfl, ?_⟩
        refine ite2 (fun q => ?_) (fun q => ⟨i, 0, rfl, i0, by decide, hb, Same.refl _⟩)
        rw [decide_eq_true_iff, vI_len] at q
        obtain ⟨i1, rfl⟩ := Int.eq_ofNat_of_zero_le i0
        obtain ⟨x, hx⟩ : ∃ x, cs[i1]? = some x := ⟨_, List.getElem?_eq_getElem (by omega)⟩
        have hxv : (vI cs)[i1]? = some (.int x) := by unfold vI; rw [List.getElem?_map, hx]; rfl
        refine ⟨_, rfl, b, _, 0, _, rfl, rfl, SqL.of hb, at0 _ _ _ _, ?_⟩
        refine ⟨_, rfl, b, _, 1, _, rfl, rfl, SqL.of hb, at1 _ _ _ _, c, _, _, _, rfl, rfl, SqL.of hc, atI_nat hxv, ?_⟩
        refine ⟨_, rfl, b, _, 1, _, rfl, rfl, SqL.of hb, at1 _ _ _ _, _, _, rfl, rfl, ?_⟩
        refine ⟨_, rfl, b, _, 1, 1, rfl, rfl, hb, rfl, ?_⟩
        exact ⟨(i1 : Int) + 1, x, rfl, by omega, c0 x (List.mem_of_getElem? hx), upd_same, by rw [off_upd]; exact Same.refl _⟩
      · rintro σ' H' ⟨i', cell, rfl, j0, c1, hb', so⟩
        have hc' : H' c = some (.lst (vI cs)) := off_le _ _ (so _ _ (by rw [off_ne ncb]; exact hc))
        have box : ∀ (i' pd' st' : Int), 0 ≤ i' → 0 ≤ pd' → 0 ≤ st' → st' < 2147483647 → BoxAt (upd H' b (.lst [.ref c, .int i', .int pd', .int st'])) b c := fun i' pd' st' a1 a2 a3 a4 =>
          ⟨cs, i', pd', st', upd_same, by rw [upd_ne ncb]; exact hc', ncb, a1, a2, a3, a4, c0⟩
        refine ⟨_, rfl, _, _, rfl, rfl, ⟨by decide, by decide, by decide⟩, _, _, rfl, rfl, _, rfl, ?_⟩
        refine ite2 (fun q => ?_) (fun q => ?_)
        · refine ⟨_, rfl, _, rfl, _, _, rfl, rfl, ⟨m0, m1⟩, ?_⟩
          refine ⟨_, rfl, b, _, 2, 2, rfl, rfl, hb', rfl, ?_⟩
          refine ⟨_, rfl, .inl ⟨_, rfl, _, rfl, _, _, rfl, rfl, m0, ?_⟩⟩
          have h1 := Int.emod_nonneg cell (by omega : m ≠ 0)
          have h2 := Int.emod_lt_of_pos cell m0
          obtain ⟨r, hr'⟩ := Int.eq_ofNat_of_zero_le h1
          have z := k r _ (by omega) (box i' (cell / m) st j0 (Int.ediv_nonneg c1 (by omega)) s0 s1) (by rw [off_upd]; exact so)
          rw [← hr'] at z
          exact z
        · refine ⟨_, rfl, b, _, 3, _, rfl, rfl, SqL.of hb', at3 _ _ _ _, _, _, rfl, rfl, .inl ⟨by omega, by omega⟩, ?_⟩
          refine ⟨_, rfl, _, _, rfl, rfl, .inl ⟨_, rfl, _, _, rfl, rfl, (by show (0 : Int) < 2147483647; decide), ?_⟩⟩
          refine ⟨_, rfl, b, _, 3, 3, rfl, rfl, hb', rfl, ?_⟩
          have h1 := Int.emod_nonneg (st * 48271 + cell) (by decide : (2147483647 : Int) ≠ 0)
          have h2 := Int.emod_lt_of_pos (st * 48271 + cell) (by decide : (0 : Int) < 2147483647)
          have bx := box i' pd ((st * 48271 + cell) % 2147483647) j0 p0 h1 h2
          have eb : (upd H' b (.lst [.ref c, .int i', .int pd, .int ((st * 48271 + cell) % 2147483647)])) b = some (.lst [.ref c, .int i', .int pd, .int ((st * 48271 + cell) % 2147483647)]) := upd_same
          have so2 : Same (off b H) (off b (upd H' b (.lst [.ref c, .int i', .int pd, .int ((st * 48271 + cell) % 2147483647)]))) := by rw [off_upd]; exact so
          refine ⟨_, rfl, b, _, 3, _, rfl, rfl, SqL.of eb, at3 _ _ _ _, _, _, rfl, rfl, .inl ⟨by omega, by omega⟩, .inl ⟨_, rfl, _, _, rfl, rfl, (by show (0 : Int) < 2147483629; decide), _, _, rfl, rfl, ⟨by decide, by decide⟩, .inl ⟨_, rfl, _, rfl, _, _, rfl, rfl, m0, ?_⟩⟩⟩
          have h3 := Int.emod_nonneg ((st * 48271 + cell) % 2147483647 * 69621 % 2147483629 / 16) (by omega : m ≠ 0)
          have h4 := Int.emod_lt_of_pos ((st * 48271 + cell) % 2147483647 * 69621 % 2147483629 / 16) m0
          obtain ⟨r, hr'⟩ := Int.eq_ofNat_of_zero_le h3
          have z := k r _ (by omega) bx so2
          rw [← hr'] at z
          exact z
end
end Toy
namespace Toy
open PySem L2
/-! ### canonical lists of words -/
def Can (n : Nat) (ws : List Int) : Prop := asc ws n = ws
theorem asc_congr {a b : List Int} : ∀ {n : Nat}, (∀ j : Nat, j < n → (((j : Int) ∈ a) ↔ ((j : Int) ∈ b))) → asc a n = asc b n
  | 0, _ => rfl
  | n + 1, h => by
    rw [asc_succ, asc_succ, asc_congr (n := n) fun j hj => h j (by omega)]
    have q := h n (by omega)
    by_cases c : (n : Int) ∈ a
    · rw [if_pos c, if_pos (q.mp c)]
    · rw [if_neg c, if_neg fun z => c (q.mpr z)]
theorem asc_mem {ns : List Int} {n : Nat} {x : Int} (h : x ∈ asc ns n) : x ∈ ns ∧ 0 ≤ x ∧ x < (n : Int) := by
  unfold asc at h
  obtain ⟨i, hi, rfl⟩ := List.mem_map.mp h
  obtain ⟨h1, h2⟩ := List.mem_filter.mp hi
  have := List.mem_range.mp h1
  exact ⟨of_decide_eq_true h2, by omega, by omega⟩
theorem Can.mem {n : Nat} {ws : List Int} (c : Can n ws) {x : Int} (h : x ∈ ws) : 0 ≤ x ∧ x < (n : Int) := by
  have c' : asc ws n = ws := c
  rw [← c'] at h
  exact (asc_mem h).2
theorem Can.len {n : Nat} {ws : List Int} (c : Can n ws) : ws.length ≤ n := by
  have c' : asc ws n = ws := c
  rw [← c']
  exact asc_len _ _
theorem Can.skip {n : Nat} {ws : List Int} (c : Can n ws) : Can (n + 1) ws := by
  show asc ws (n + 1) = ws
  rw [asc_succ, if_neg fun h => by have := c.mem h; omega]
  exact c
theorem Can.add {n : Nat} {ws : List Int} (c : Can n ws) : Can (n + 1) (ws ++ [(n : Int)]) := by
  show asc (ws ++ [(n : Int)]) (n + 1) = _
  rw [asc_succ, if_pos (by simp)]
  have e : asc (ws ++ [(n : Int)]) n = asc ws n := asc_congr fun j hj => by
    have : ¬ ((j : Int) = (n : Int)) := by omega
    simp [this]
  rw [e, c]
theorem Can.one {n : Nat} {x : Nat} (h : x < n) : Can n [(x : Int)] := by
  induction n with
  | zero => omega
  | succ n ih =>
    by_cases e : x = n
    · subst e
      exact Can.add (n := x) (ws := []) (by
        show asc [] x = []
        unfold asc
        simp)
    · exact (ih (by omega)).skip
theorem Can.nil {n : Nat} : Can n [] := by
  show asc [] n = []
  unfold asc
  simp
theorem six : ∀ i : Nat, i < 6 → ∃ d : Int, ([V.int 1, V.int 2, V.int 4, V.int 8, V.int 16, V.int 32] : List V)[i]? = some (.int d) ∧ 0 < d ∧ d < 1073741824
  | 0, _ => ⟨1, rfl, by decide, by decide⟩
  | 1, _ => ⟨2, rfl, by decide, by decide⟩
  | 2, _ => ⟨4, rfl, by decide, by decide⟩
  | 3, _ => ⟨8, rfl, by decide, by decide⟩
  | 4, _ => ⟨16, rfl, by decide, by decide⟩
  | 5, _ => ⟨32, rfl, by decide, by decide⟩
  | i + 6, h => by omega
theorem seven : ∀ i : Nat, 1 ≤ i → i ≤ 6 → ∃ d : Int, ([V.int 1, V.int 2, V.int 4, V.int 8, V.int 16, V.int 32, V.int 64] : List V)[i]? = some (.int d) ∧ 2 ≤ d ∧ d ≤ 64
  | 0, h, _ => by omega
  | 1, _, _ => ⟨2, rfl, by decide, by decide⟩
  | 2, _, _ => ⟨4, rfl, by decide, by decide⟩
  | 3, _, _ => ⟨8, rfl, by decide, by decide⟩
  | 4, _, _ => ⟨16, rfl, by decide, by decide⟩
  | 5, _, _ => ⟨32, rfl, by decide, by decide⟩
  | 6, _, _ => ⟨64, rfl, by decide, by decide⟩
  | i + 7, _, h => by omega
def spWords : Sp := fun vs H Q _ => ∃ (b c : Addr) (n : Nat) (least : Int), vs = [.ref b, .int n, .int least] ∧ BoxAt H b c ∧ 1 ≤ n ∧ n ≤ 6 ∧ 0 ≤ least ∧ least ≤ 1 ∧
  ∀ H' l ws, BoxAt H' b c → Same (off b H) (off b H') → off b H l = none → off b H' l = some (.lst (vI ws)) → Can n ws → Q (.ref l) H'
structure Lt (K : PySem.W.Frag) (mg : Str → Option Value) : Prop where
  B : Bt mg
  take : ∃ f fd, Fun K "_law_take" "_law_take" sTake f fd ∧ mg "_law_take" = some (.ref f) ∧ Binds K fd ["_law_box_here", "_law_many"] []
  words : ∃ f fd, Fun K "_law_words" "_law_words" sWords f fd ∧ mg "_law_words" = some (.ref f) ∧ Binds K fd ["_law_box_here", "_law_n", "_law_least"] []
section
variable {P : Program} {w : World} {K : PySem.W.Frag} {mg : Str → Option Value} {base : Heap}
theorem scWords : FnScope ["_law_box_here", "_law_n", "_law_least", "_law_mask", "_law_word"] ["_law_box_here", "_law_n", "_law_least"] (defScope sWords) := ⟨rfl, rfl, rfl, by decide +kernel, rfl, by decide +kernel, by decide +kernel⟩
theorem off_free {b l : Addr} {H : Hp} (h : H l = none) : off b H l = none := by
  by_cases e : l = b
  · rw [e, off_at]
  · rw [off_ne e]; exact h
theorem ok_words {f : Addr} {fd : FuncData} (F : Fun K "_law_words" "_law_words" sWords f fd) (S : Lt K mg) : FnOk P w K mg base CX0 2 f fd ["_law_box_here", "_law_n", "_law_least"] spWords := by
  obtain ⟨fT, fdT, FT, mT, bT⟩ := S.take
  refine F.ok scWords (fun vs H Q E h => ?_) (fun cdv A outer s H vs Q E hr h => ?_)
  · obtain ⟨b, c, n, least, rfl, _⟩ := h
    rfl
  · obtain ⟨b, c, n, least, rfl, hb, n1, n6, l0, l1, k⟩ := h
    refine ⟨_, pss_cons (ps_set (i := 3) scWords.nd rfl (Or.inr rfl) (pe_op op_add (pv 2) (pe_call (ok_take FT S.B) hr rfl mT FT.kp bT .nil pass0 (pa_cons (pv 0) (pa_cons (pe_op op_sub
        (pe_ix ix_list (pe_lst (pa_cons pe_int (pa_cons pe_int (pa_cons pe_int (pa_cons pe_int (pa_cons pe_int (pa_cons pe_int (pa_cons pe_int pa_nil)))))))) (pv 1) (fun _ _ => rfl)) (pv 2)) pa_nil)))))
      (pss_one (ps_ret (pe_lc (own := [("_law_word", 4)]) (g := gName 4)
          (tt := tTest (tOp rEq (tOp (rI (fun _ j => 0 < j) fun i j => .int (i % j)) (tCB (fun xs H Q => (∃ i, xs = [.int i] ∧ Q (.int i) H) ∨ ∃ k, xs = [.bl k] ∧ Q (.int (if k then 1 else 0)) H) (tCons (tOp (rI CDiv fun i j => .int (i / j)) (tVar 3)
            (tOp (rIxL K) (tLst (tCons (tC (.int 1)) (tCons (tC (.int 2)) (tCons (tC (.int 4)) (tCons (tC (.int 8)) (tCons (tC (.int 16)) (tCons (tC (.int 32)) tNil))))))) (tVar 4))) tNil)) (tC (.int 2))) (tC (.int 1))))
          rfl scWords.nd (pi_range1 (by rfl) S.B.range (pa_cons (pv 1) pa_nil)) (blkOk_by (own := [("_law_word", 4)]) (N := ["_law_box_here", "_law_n", "_law_least", "_law_mask", "_law_word"]) (sc := defScope sWords) (by decide +kernel))
          (fun _ _ _ _ _ => pg_name (i := 4) scWords.nd rfl (Or.inl rfl))
          (fun _ _ _ _ _ => pts_one (pt_cmpR op_eq (pe_op op_mod (pe_callTy call_int1 (by rfl) S.B.int (by decide +kernel) (pa_cons (pe_op op_fdiv (pv 3)
            (pe_ix ix_list (pe_lst (pa_cons pe_int (pa_cons pe_int (pa_cons pe_int (pa_cons pe_int (pa_cons pe_int (pa_cons pe_int pa_nil))))))) (pv 4) (fun _ _ => rfl))) pa_nil)) pe_int) pe_int (nomark _)))
          (fun _ _ _ _ _ => pv 4)))), ?_⟩
    obtain ⟨d, hd, d2, d64⟩ := seven n n1 n6
    refine ⟨_, rfl, _, rfl, by show 7 ≤ sizeLine; decide, fun p hp => ?_⟩
    refine ⟨_, rfl, p, _, n, _, rfl, rfl, SqL.of upd_same, atI_nat hd, _, rfl, _, _, rfl, rfl, ?_⟩
    have pb := hb.ne hp
    have s0 := Same.new (H := H) (o := .lst [V.int 1, V.int 2, V.int 4, V.int 8, V.int 16, V.int 32, V.int 64]) hp
    refine ⟨b, c, d - least, rfl, hb.same s0, by omega, by omega, fun r H1 hr1 hb1 so1 => ?_⟩
    refine ⟨_, _, rfl, rfl, ?_⟩
    have so := L2.Same.trans (Same.off (b := b) s0) so1
    refine ⟨_, rfl, n, rfl, by omega, by omega, fun D hD => ?_⟩
    have nDb := hb1.ne hD
    have hDo : off b H D = none := so.free (off_free hD)
    refine lc_range (lo := 0) (n := n) (fun i H' => Same H1 H' ∧ ∃ ws, H' D = some (.lst (vI ws)) ∧ Can i ws) ⟨Same.new hD, [], upd_same, .nil⟩ ?_ ?_
    · rintro i H2 hi ⟨s2, ws, hd2, hc⟩
      obtain ⟨e, he, e0, e1⟩ := six i (by omega)
      refine ⟨rfl, ?_⟩
      refine ⟨_, rfl, by show 6 ≤ sizeLine; decide, fun q hq => ?_⟩
      have nDq : D ≠ q := ne_of_none hd2 hq
      have s3 := Same.new (H := H2) (o := .lst [V.int 1, V.int 2, V.int 4, V.int 8, V.int 16, V.int 32]) hq
      refine ⟨_, rfl, q, _, _, _, rfl, rfl, SqL.of upd_same, at_of (j := i) (by omega) he, _, _, rfl, rfl, ⟨e0, e1⟩, .inl ⟨_, rfl, _, _, rfl, rfl, (by show (0 : Int) < 2; decide), rfl, _, rfl, ?_⟩⟩
      refine ite2 (fun _ => ?_) (fun _ => ?_)
      · refine ⟨_, rfl, _, s3 _ _ hd2, ?_, Same.updN (s2.trans s3) hD, ws ++ [(i : Int)], ?_, hc.add⟩
        · rw [vI_len]
          exact Nat.lt_of_le_of_lt (Nat.le_trans hc.len (by omega : i ≤ 6)) (by decide)
        · rw [upd_same]
          unfold vI
          rw [List.map_append, Int.zero_add]
          rfl
      · exact ⟨s2.trans s3, ws, s3 _ _ hd2, hc.skip⟩
    · rintro H2 ⟨s2, ws, hd2, hc⟩
      exact k H2 D ws (hb1.same s2) (so.trans (Same.off s2)) hDo (by rw [off_ne nDb]; exact hd2) hc
end
end Toy
namespace Toy
open PySem L2
/-! ### data compared -/
def dI (ns : List Int) : List PyData := ns.map PyData.int
def dR (R : List (List Int)) : List PyData := R.map fun r => .list (dI r)
theorem eqv_dI : ∀ a b : List Int, PyData.eqvAll (dI a) (dI b) = decide (a = b)
  | [], [] => by simp [dI, PyData.eqvAll]
  | [], _ :: _ => by simp [dI, PyData.eqvAll]
  | _ :: _, [] => by simp [dI, PyData.eqvAll]
  | x :: a, y :: b => by
    have ih := eqv_dI a b
    show PyData.eqvAll (.int x :: dI a) (.int y :: dI b) = _
    rw [PyData.eqvAll, PyData.eqv, ih]
    by_cases h : x = y
    · subst h
      simp
    · simp [h]
theorem eqv_dR : ∀ a b : List (List Int), PyData.eqvAll (dR a) (dR b) = decide (a = b)
  | [], [] => by simp [dR, PyData.eqvAll]
  | [], _ :: _ => by simp [dR, PyData.eqvAll]
  | _ :: _, [] => by simp [dR, PyData.eqvAll]
  | x :: a, y :: b => by
    have ih := eqv_dR a b
    show PyData.eqvAll (.list (dI x) :: dR a) (.list (dI y) :: dR b) = _
    rw [PyData.eqvAll, PyData.eqv, ih, eqv_dI]
    by_cases h : x = y
    · subst h
      simp
    · simp [h]
theorem lay_dI : ∀ a : List Int, PyData.canLayAll0 (dI a) = true
  | [] => rfl
  | x :: a => by
    show (PyData.canLay0 (.int x) && PyData.canLayAll0 (dI a)) = true
    rw [lay_dI a]
    rfl
theorem dep_dI : ∀ a : List Int, PyData.depthAll (dI a) = 0
  | [] => rfl
  | x :: a => by
    show max (PyData.depth (.int x)) (PyData.depthAll (dI a)) = 0
    rw [dep_dI a]
    rfl
theorem lay_dR : ∀ a : List (List Int), PyData.canLayAll0 (dR a) = true
  | [] => rfl
  | x :: a => by
    show (PyData.canLay0 (.list (dI x)) && PyData.canLayAll0 (dR a)) = true
    rw [lay_dR a]
    show (PyData.canLayAll0 (dI x) && true) = true
    rw [lay_dI]
    rfl
theorem dep_dR : ∀ a : List (List Int), PyData.depthAll (dR a) ≤ 1
  | [] => by decide
  | x :: a => by
    have ih := dep_dR a
    show max (PyData.depthAll (dI x) + 1) (PyData.depthAll (dR a)) ≤ 1
    rw [dep_dI]
    omega
theorem shI (a : List Int) : SeqAt.shaped (.list (dI a)) = true := by
  show (PyData.canLayAll0 (dI a) && decide (PyData.depthAll (dI a) + 1 ≤ 64)) = true
  rw [lay_dI, dep_dI]
  rfl
theorem shT (a : List Int) : SeqAt.shaped (.tuple (dI a)) = true := by
  show (PyData.canLayAll0 (dI a) && decide (PyData.depthAll (dI a) + 1 ≤ 64)) = true
  rw [lay_dI, dep_dI]
  rfl
theorem shR (a : List (List Int)) : SeqAt.shaped (.list (dR a)) = true := by
  show (PyData.canLayAll0 (dR a) && decide (PyData.depthAll (dR a) + 1 ≤ 64)) = true
  have := dep_dR a
  rw [lay_dR, decide_eq_true (by omega)]
  rfl
theorem eqI (a b : List Int) : PyData.eqv (.list (dI a)) (.list (dI b)) = decide (a = b) := by rw [PyData.eqv, eqv_dI]
theorem eqT (a b : List Int) : PyData.eqv (.tuple (dI a)) (.tuple (dI b)) = decide (a = b) := by rw [PyData.eqv, eqv_dI]
theorem eqR (a b : List (List Int)) : PyData.eqv (.list (dR a)) (.list (dR b)) = decide (a = b) := by rw [PyData.eqv, eqv_dR]
theorem dpAllI {K : PySem.W.Frag} {H : Hp} : ∀ a : List Int, DpAll K H (vI a) (dI a)
  | [] => .nil
  | x :: a => .cons (.int x) (dpAllI a)
theorem dpI {K : PySem.W.Frag} {H : Hp} {l : Addr} {a : List Int} (h : SqL K H l (vI a)) : Dp K H (.ref l) (.list (dI a)) := .lst h (dpAllI a)
theorem dpT {K : PySem.W.Frag} {H : Hp} {l : Addr} {a : List Int} (h : SqT K H l (vI a)) : Dp K H (.ref l) (.tuple (dI a)) := .tup h (dpAllI a)
theorem dpAllR {K : PySem.W.Frag} {H : Hp} : ∀ {ls : List V} {R : List (List Int)}, RowsL H ls R → DpAll K H ls (dR R)
  | _, _, .nil => .nil
  | _, _, .cons ⟨t, e, q⟩ r => .cons (by rw [e]; exact dpI (SqL.of q)) (dpAllR r)
theorem dpR {K : PySem.W.Frag} {H : Hp} {l : Addr} {ls : List V} {R : List (List Int)} (h : SqL K H l ls) (r : RowsL H ls R) : Dp K H (.ref l) (.list (dR R)) := .lst h (dpAllR r)
/-! ### rows that are new -/
theorem RowsN.same {G0 G G' : Hp} {ls R} (s : Same G G') (h : RowsN G0 G ls R) : RowsN G0 G' ls R := L2.Paired.mapP h fun _ _ ⟨t, e, q, z⟩ => ⟨t, e, s _ _ q, z⟩
theorem RowsN.rows {G0 G : Hp} {ls R} (h : RowsN G0 G ls R) : RowsL G ls R := L2.Paired.mapP h fun _ _ ⟨t, e, q, z⟩ => ⟨t, e, q⟩
theorem RowsN.snoc {G0 G : Hp} {l t : Addr} {o : HO} {ls R r} (h : RowsN G0 G ls R) (nl : ∀ v ∈ ls, v ≠ .ref l) (ht : G t = some (.lst (vI r))) (h0 : G0 t = none) (n : t ≠ l) :
    RowsN G0 (upd G l o) (ls ++ [.ref t]) (R ++ [r]) ∧ ∀ v ∈ ls ++ [V.ref t], v ≠ .ref l := by
  refine ⟨L2.Paired.snoc ⟨t, rfl, by rw [upd_ne n]; exact ht, h0⟩ (PairedIn.map h fun v r hv ⟨t', e, q, z⟩ => ⟨t', e, ?_, z⟩), fun v hv => ?_⟩
  · rw [upd_ne fun z => nl v hv (by rw [e, z])]
    exact q
  · rcases List.mem_append.mp hv with hv | hv
    · exact nl v hv
    · rw [List.mem_singleton.mp hv]
      exact fun z => n (V.ref.inj z)
def spRowsL : Sp := fun vs H Q _ => ∃ (b c : Addr) (n : Nat) (least : Int), vs = [.ref b, .int n, .int least] ∧ BoxAt H b c ∧ 1 ≤ n ∧ n ≤ 6 ∧ 0 ≤ least ∧ least ≤ 1 ∧
  ∀ H' l ls R, BoxAt H' b c → Same (off b H) (off b H') → off b H l = none → off b H' l = some (.lst ls) → RowsN (off b H) (off b H') ls R → R.length = n → (∀ r ∈ R, Can n r) → Q (.ref l) H'
def spMixed : Sp := fun vs H Q _ => ∃ (b c l : Addr) (ws : List Int), vs = [.ref b, .ref l] ∧ BoxAt H b c ∧ off b H l = some (.lst (vI ws)) ∧ ws.length ≤ 6 ∧
  ∀ H' g gs, BoxAt H' b c → Same (off b H) (off b H') → off b H g = none → off b H' g = some (.lst (vI gs)) → (∀ x, x ∈ gs ↔ x ∈ ws) → gs.length ≤ 7 → Q (.ref g) H'
theorem tf_rows' (n : Nat) (tr tp : Addr) : (tf n tr tp).lookup ("rows" : Str) = none := tf_no _ _ _ (by decide +kernel) (by decide +kernel) (by decide +kernel)
theorem tf_pairs' (n : Nat) (tr tp : Addr) : (tf n tr tp).lookup ("pairs" : Str) = none := tf_no _ _ _ (by decide +kernel) (by decide +kernel) (by decide +kernel)
end Toy
namespace Toy
open PySem L2
section
variable {P : Program} {w : World} {K : PySem.W.Frag} {mg : Str → Option Value} {base : Heap}
theorem scRowsL : FnScope ["_law_box_here", "_law_n", "_law_least", "_law_rows_here", "_law_k"] ["_law_box_here", "_law_n", "_law_least"] (defScope sRowsL) := ⟨rfl, rfl, rfl, by decide +kernel, rfl, by decide +kernel, by decide +kernel⟩
theorem ok_rowsL {f : Addr} {fd : FuncData} (F : Fun K "_law_rows" "_law_rows" sRowsL f fd) (S : Lt K mg) : FnOk P w K mg base CX0 3 f fd ["_law_box_here", "_law_n", "_law_least"] spRowsL := by
  obtain ⟨fT, fdT, FT, mT, bT⟩ := S.take
  obtain ⟨fW, fdW, FW, mW, bW⟩ := S.words
  refine F.ok scRowsL (fun vs H Q E h => ?_) (fun cdv A outer s H vs Q E hr h => ?_)
  · obtain ⟨b, c, n, least, rfl, _⟩ := h
    rfl
  · obtain ⟨b, c, n, least, rfl, hb, n1, n6, l0, l1, k⟩ := h
    have hr1 : Room 1 _ := hr.mono (by decide)
    refine ⟨_, pss_cons (ps_set (i := 3) scRowsL.nd rfl (Or.inl rfl) (pe_lst pa_nil))
      (pss_cons (ps_for PassesOwn.never rfl (pi_range1 (by rfl) S.B.range (pa_cons (pv 1) pa_nil)) (pg_name (i := 4) scRowsL.nd rfl (Or.inl rfl))
        (pss_one (ps_if (pt_cmpR op_eq (pe_call (ok_take FT S.B) hr1 rfl mT FT.kp bT .nil pass0 (pa_cons (pv 0) (pa_cons pe_int pa_nil))) pe_int (nomark _))
          (pss_one (ps_expr (pe_bm PySem.F.plainAttrs_list PySem.F.slot_list_append PySem.F.type_list_append mt_append (pv 3) (pa_cons (pe_lst (pa_cons (pe_call (ok_take FT S.B) hr1 rfl mT FT.kp bT .nil pass0 (pa_cons (pv 0) (pa_cons (pv 1) pa_nil))) pa_nil)) pa_nil))))
          (pss_one (ps_expr (pe_bm PySem.F.plainAttrs_list PySem.F.slot_list_append PySem.F.type_list_append mt_append (pv 3) (pa_cons (pe_call (ok_words FW S) hr rfl mW FW.kp bW .nil pass0 (pa_cons (pv 0) (pa_cons (pv 1) (pa_cons (pv 2) pa_nil)))) pa_nil)))))))
      (pss_one (ps_ret (pv 3)))), ?_⟩
    refine ⟨Nat.zero_le _, fun l hl => ?_⟩
    have lb := hb.ne hl
    have lc := hb.nec hl
    refine ⟨_, rfl, n, rfl, by omega, by omega, ?_⟩
    refine for_range (lo := 0) (n := n) (fun i σ H' => ∃ (v : Option V) (ls : List V) (R : List (List Int)), σ = [some (.ref b), some (.int n), some (.int least), some (.ref l), v] ∧ BoxAt H' b c ∧ Same (off b H) (off b H') ∧
        off b H' l = some (.lst ls) ∧ RowsN (off b H) (off b H') ls R ∧ (∀ v ∈ ls, v ≠ .ref l) ∧ R.length = i ∧ ∀ r ∈ R, Can n r)
      ⟨none, [], [], rfl, hb.same (Same.new hl), by rw [off_updN lb]; exact Same.new (off_free hl), by rw [off_ne lb]; exact upd_same, .nil, fun _ h => (by cases h), rfl, fun _ h => (by cases h)⟩ ?_ ?_
    · rintro i σ H1 hi ⟨v, ls, R, rfl, hb1, s1, hl1, hR, nl, eR, hC⟩
      have hlen : ls.length ≤ 6 := by rw [Paired.length hR]; omega
      refine ⟨_, rfl, b, c, 3, rfl, hb1, by decide, by decide, fun r1 H2 hr1 hb2 s2 => ?_⟩
      refine ⟨rfl, _, rfl, ?_⟩
      have hl2 := s2 _ _ hl1
      refine ite2 (fun _ => ?_) (fun _ => ?_)
      · refine ⟨_, rfl, .inl ⟨rfl, _, SqL.of (off_le _ _ hl2)⟩, _, rfl, _, rfl, b, c, (n : Int), rfl, hb2, by omega, by omega, fun r H3 hr3 hb3 s3 => ?_⟩
        refine ⟨by show 1 ≤ sizeLine; decide, fun q hq => ?_⟩
        have qb := hb3.ne hq
        have hl3 := s3 _ _ hl2
        have s4 : Same (off b H3) (off b (upd H3 q (.lst [V.int (r : Int)]))) := Same.off (Same.new hq)
        have hl4 := s4 _ _ hl3
        have hq4 : off b (upd H3 q (.lst [V.int (r : Int)])) q = some (.lst (vI [(r : Int)])) := by rw [off_ne qb]; exact upd_same
        have hb4 := hb3.same (Same.new (o := .lst [V.int (r : Int)]) hq)
        have q0 : off b H q = none := (s1.trans (s2.trans s3)).free (off_free hq)
        have ql : q ≠ l := (ne_of_none hl3 (off_free hq)).symm
        have sT := s2.trans (s3.trans s4)
        have hRT := RowsN.same sT hR
        generalize upd H3 q (.lst [V.int (r : Int)]) = H4 at s4 hl4 hq4 hb4 sT hRT
        obtain ⟨z1, z2⟩ := RowsN.snoc (o := .lst (ls ++ [.ref q])) hRT nl hq4 q0 ql
        refine ⟨l, ls, _, rfl, rfl, off_le _ _ hl4, Nat.lt_of_le_of_lt hlen (by decide), _, ls ++ [.ref q], R ++ [[(r : Int)]], rfl, ?_, ?_, ?_, ?_, z2, by rw [List.length_append, eR]; rfl, ?_⟩
        · exact hb4.upd lb lc
        · rw [off_updN lb]
          exact Same.updN (s1.trans sT) (off_free hl)
        · rw [off_updN lb]; exact upd_same
        · rw [off_updN lb]; exact z1
        · intro r' h
          rcases List.mem_append.mp h with h | h
          · exact hC _ h
          · rw [List.mem_singleton.mp h]
            exact Can.one (by omega)
      · refine ⟨_, rfl, .inl ⟨rfl, _, SqL.of (off_le _ _ hl2)⟩, _, rfl, _, rfl, _, rfl, b, c, n, least, rfl, hb2, n1, n6, l0, l1, fun H3 q ws hb3 s3 q0 hq hC' => ?_⟩
        have hl3 := s3 _ _ hl2
        have ql : q ≠ l := (ne_of_none hl2 q0).symm
        have q00 : off b H q = none := (s1.trans s2).free q0
        have sT := s2.trans s3
        have hRT := RowsN.same sT hR
        obtain ⟨z1, z2⟩ := RowsN.snoc (o := .lst (ls ++ [.ref q])) hRT nl hq q00 ql
        refine ⟨l, ls, _, rfl, rfl, off_le _ _ hl3, Nat.lt_of_le_of_lt hlen (by decide), _, ls ++ [.ref q], R ++ [ws], rfl, hb3.upd lb lc, ?_, ?_, ?_, z2, by rw [List.length_append, eR]; rfl, ?_⟩
        · rw [off_updN lb]
          exact Same.updN (s1.trans sT) (off_free hl)
        · rw [off_updN lb]; exact upd_same
        · rw [off_updN lb]; exact z1
        · intro r' h
          rcases List.mem_append.mp h with h | h
          · exact hC _ h
          · rw [List.mem_singleton.mp h]
            exact hC'
    · rintro σ H1 ⟨v, ls, R, rfl, hb1, s1, hl1, hR, nl, eR, hC⟩
      exact ⟨_, rfl, k H1 l ls R hb1 s1 (off_free hl) hl1 hR eR hC⟩
end
end Toy
namespace Toy
open PySem L2
theorem Tab.off {C b c : Addr} {H : Hp} {p : Addr} {R} (h : Tab C H p R) (hb : BoxAt H b c) : Tab C (Toy.off b H) p R := by
  obtain ⟨dx, tr, tp, ts, qs, h1, h2, h3, h4, h5, h6, h7⟩ := h
  obtain ⟨cs, i, pd, st, e, _⟩ := hb
  have ne : ∀ {a : Addr} {o : HO}, H a = some o → o ≠ .lst [.ref c, .int i, .int pd, .int st] → Toy.off b H a = some o := fun q d => by rw [off_ne (ne_of q e d)]; exact q
  exact ⟨dx, tr, tp, ts, qs, ne h1 (fun z => nomatch z), ne h2 (fun z => nomatch z), ne h3 (fun z => nomatch z), L2.Paired.mapP h4 fun _ _ ⟨t, e, q⟩ => ⟨t, e, ne q (fun z => nomatch z)⟩, ne h5 (fun z => nomatch z), L2.Paired.mapP h6 fun _ _ ⟨t, e, q⟩ => ⟨t, e, ne q (fun z => nomatch z)⟩, h7⟩
theorem Tab.updL {C : Addr} {H : Hp} {p a : Addr} {xs ys : List V} {R} (h : Tab C H p R) (e : H a = some (.lst xs)) : Tab C (upd H a (.lst ys)) p R := by
  obtain ⟨dx, tr, tp, ts, qs, h1, h2, h3, h4, h5, h6, h7⟩ := h
  have ne : ∀ {b : Addr} {o : HO}, H b = some o → o ≠ .lst xs → upd H a (.lst ys) b = some o := fun q d => by rw [upd_ne (ne_of q e d)]; exact q
  exact ⟨dx, tr, tp, ts, qs, ne h1 (fun z => nomatch z), ne h2 (fun z => nomatch z), ne h3 (fun z => nomatch z), L2.Paired.mapP h4 fun _ _ ⟨t, e, q⟩ => ⟨t, e, ne q (fun z => nomatch z)⟩, ne h5 (fun z => nomatch z), L2.Paired.mapP h6 fun _ _ ⟨t, e, q⟩ => ⟨t, e, ne q (fun z => nomatch z)⟩, h7⟩
theorem Paired.mem {α β : Type} {F : α → β → Prop} {xs : List α} {ys : List β} (h : Paired F xs ys) {x : α} (m : x ∈ xs) : ∃ y, y ∈ ys ∧ F x y := by
  obtain ⟨i, hi⟩ := List.mem_iff_getElem?.mp m
  obtain ⟨y, hy, f⟩ := L2.Paired.at h hi
  exact ⟨y, List.mem_of_getElem? hy, f⟩
/-- a table made of canonical rows has these rows -/
theorem same_rows {n : Nat} : ∀ {R : List (List Int)}, (∀ r ∈ R, Can n r) → (R.map fun g => asc g n) = R
  | [], _ => rfl
  | r :: R, c => by
    have ih := same_rows fun r hr => c r (List.mem_cons_of_mem _ hr)
    have cr : asc r n = r := c r List.mem_cons_self
    rw [List.map_cons, ih, cr]
theorem can_all {n : Nat} {R : List (List Int)} (hC : ∀ r ∈ R, Can n r) (h6 : n ≤ 6) : ∀ g ∈ R, g.length < sizeLine ∧ g.all (isW n) = true := fun g hg => by
  refine ⟨Nat.lt_of_le_of_lt (Nat.le_trans (hC g hg).len h6) (by decide), List.all_eq_true.mpr fun x hx => ?_⟩
  have := (hC g hg).mem hx
  unfold isW
  rw [decide_eq_true this.1, decide_eq_true this.2]
  rfl
theorem BoxAt.keep {H H' : Hp} {b c x : Addr} (h : BoxAt H b c) (hx : H x = none) (k : ∀ q o, q ≠ x → H q = some o → H' q = some o) : BoxAt H' b c :=
  h.same fun q o e => k q o (ne_of_none e hx) e
def spLaw (K : PySem.W.Frag) : Sp := fun vs H Q _ => ∃ (a : Addr) (ns : List Int), vs = [.ref a] ∧ SqL K H a (ns.map V.int) ∧ ns.length ≤ 63 ∧ ∀ H', Q (.bl true) H'
end Toy
namespace L2
open PySem PySem.Spec PyProof.Rows
/-- what a scope's names become within another block -/
theorem lk_re {env : Env} {x : Str} : ∀ {names : List (Str × NameKind)}, (names.lookup x = some .cell ∨ names.lookup x = some .free) →
    (names.map fun (n, k) => if (k == NameKind.free && env.scope.kind == .function && env.kindOf n == some .cell) then (n, NameKind.cell) else (n, k)).lookup x = some .cell ∨
    (names.map fun (n, k) => if (k == NameKind.free && env.scope.kind == .function && env.kindOf n == some .cell) then (n, NameKind.cell) else (n, k)).lookup x = some .free
  | [], h => by simp at h
  | (n, k) :: r, h => by
    have ih := @lk_re env x r
    simp only [List.map_cons]
    by_cases e : x = n
    · subst e
      have hk : k = .cell ∨ k = .free := by simpa [List.lookup] using h
      by_cases c : (k == NameKind.free && env.scope.kind == .function && env.kindOf x == some .cell) = true
      · rw [if_pos c]
        left
        simp [List.lookup]
      · rw [if_neg c]
        rcases hk with rfl | rfl
        · left; simp [List.lookup]
        · right; simp [List.lookup]
    · have b : (x == n) = false := by simpa using e
      have h' : r.lookup x = some .cell ∨ r.lookup x = some .free := by simpa [List.lookup, b] using h
      have q := ih h'
      by_cases c : (k == NameKind.free && env.scope.kind == .function && env.kindOf n == some .cell) = true
      · rw [if_pos c]
        simpa [List.lookup, b] using q
      · rw [if_neg c]
        simpa [List.lookup, b] using q
theorem blkOk_re {N : List Str} {sc scope : Scope} {env : Env} {own : List (Str × Nat)} (h : blkC N sc scope own = true) : BlkOk N (relabel sc env) scope own := by
  have q := blkOk_by h
  exact ⟨q.kind, q.uniq, q.ix, fun y hy e => lk_re (q.free y hy e), q.own⟩
end L2
namespace Toy
open PySem L2
/-! ### the words below n of which p holds -/
def filt (n : Nat) (p : Nat → Bool) : List Int := ((List.range n).filter p).map fun (i : Nat) => (i : Int)
theorem filt_succ (n : Nat) (p : Nat → Bool) : filt (n + 1) p = if p n = true then filt n p ++ [(n : Int)] else filt n p := by
  unfold filt
  rw [List.range_succ, List.filter_append]
  by_cases h : p n = true
  · rw [if_pos h]
    simp [h]
  · rw [if_neg h]
    simp [h]
theorem filt_yes {n : Nat} {p : Nat → Bool} (h : p n = true) : filt (n + 1) p = filt n p ++ [(n : Int)] := by rw [filt_succ, if_pos h]
theorem filt_no {n : Nat} {p : Nat → Bool} (h : p n = false) : filt (n + 1) p = filt n p := by rw [filt_succ, if_neg (by rw [h]; exact Bool.false_ne_true)]
theorem filt_mem {n : Nat} {p : Nat → Bool} {j : Nat} : ((j : Int) ∈ filt n p) ↔ (j < n ∧ p j = true) := by
  unfold filt
  simp only [List.mem_map, List.mem_filter, List.mem_range]
  constructor
  · rintro ⟨i, h, e⟩
    have : i = j := by omega
    subst this
    exact h
  · exact fun h => ⟨j, h, rfl⟩
theorem filt_len (n : Nat) (p : Nat → Bool) : (filt n p).length ≤ n := by
  unfold filt
  rw [List.length_map]
  exact Nat.le_trans (List.length_filter_le _ _) (by simp)
theorem filt_congr {n : Nat} {p q : Nat → Bool} (h : ∀ j, j < n → p j = q j) : filt n p = filt n q := by
  unfold filt
  congr 1
  exact List.filter_congr fun j hj => h j (List.mem_range.mp hj)
theorem filt_bnd {n : Nat} {p : Nat → Bool} {x : Int} (h : x ∈ filt n p) : ∃ j : Nat, x = (j : Int) ∧ j < n ∧ p j = true := by
  unfold filt at h
  obtain ⟨j, hj, e⟩ := List.mem_map.mp h
  obtain ⟨h1, h2⟩ := List.mem_filter.mp hj
  exact ⟨j, e.symm, List.mem_range.mp h1, h2⟩
theorem filt_can {n : Nat} (p : Nat → Bool) : Can n (filt n p) := by
  show filt n (fun i => decide ((i : Int) ∈ filt n p)) = filt n p
  refine filt_congr fun j hj => ?_
  by_cases c : p j = true
  · rw [c, decide_eq_true (filt_mem.mpr ⟨hj, c⟩)]
  · rw [decide_eq_false fun z => c (filt_mem.mp z).2]
    simpa using c
theorem can_filt {n : Nat} {r : List Int} (c : Can n r) : filt n (fun i => decide ((i : Int) ∈ r)) = r := c
/-- a row of a table -/
def row (R : List (List Int)) (j : Nat) : List Int := R.getD j []
theorem row_of {R : List (List Int)} {j : Nat} {r : List Int} (h : R[j]? = some r) : row R j = r := by
  unfold row
  rw [List.getD_eq_getElem?_getD, h]
  rfl
theorem at_row {R : List (List Int)} {j : Nat} (h : j < R.length) : R[j]? = some (row R j) := by
  unfold row
  rw [List.getD_eq_getElem?_getD, List.getElem?_eq_getElem h]
  rfl
/-- ~ -/
def inv (R : List (List Int)) : List (List Int) := (List.range R.length).map fun (w : Nat) => filt R.length fun t => decide ((w : Int) ∈ row R t)
theorem inv_len (R : List (List Int)) : (inv R).length = R.length := by unfold inv; simp
theorem inv_row {R : List (List Int)} {j : Nat} (h : j < R.length) : row (inv R) j = filt R.length fun t => decide ((j : Int) ∈ row R t) := by
  refine row_of ?_
  unfold inv
  rw [List.getElem?_map, List.getElem?_range h]
  rfl
theorem rows_ext {A B : List (List Int)} (hl : A.length = B.length) (h : ∀ j, j < A.length → row A j = row B j) : A = B := by
  refine List.ext_getElem? fun j => ?_
  by_cases c : j < A.length
  · rw [at_row c, at_row (by omega), h j c]
  · rw [List.getElem?_eq_none (by omega), List.getElem?_eq_none (by omega)]
def CanR (n : Nat) (R : List (List Int)) : Prop := R.length = n ∧ ∀ r ∈ R, Can n r
theorem CanR.row {n : Nat} {R : List (List Int)} (c : CanR n R) {j : Nat} (h : j < n) : Can n (row R j) := c.2 _ (List.mem_of_getElem? (at_row (by rw [c.1]; exact h)))
theorem inv_can (R : List (List Int)) : CanR R.length (inv R) := by
  refine ⟨inv_len R, fun r hr => ?_⟩
  unfold inv at hr
  obtain ⟨w, _, rfl⟩ := List.mem_map.mp hr
  exact filt_can _
theorem inv_inv {n : Nat} {R : List (List Int)} (c : CanR n R) : inv (inv R) = R := by
  refine rows_ext (by rw [inv_len, inv_len]) fun j hj => ?_
  rw [inv_len, inv_len] at hj
  have cl := c.1
  rw [inv_row (by rw [inv_len]; exact hj), inv_len]
  have cj := c.row (by rw [← c.1]; exact hj)
  have e : filt n (fun i => decide ((i : Int) ∈ row R j)) = row R j := cj
  rw [← e, c.1]
  refine filt_congr fun t ht => ?_
  rw [inv_row (by rw [c.1]; exact ht), c.1]
  by_cases q : ((t : Int) ∈ row R j)
  · rw [decide_eq_true q, decide_eq_true (filt_mem.mpr ⟨by omega, decide_eq_true q⟩)]
  · rw [decide_eq_false q, decide_eq_false fun z => q (of_decide_eq_true (filt_mem.mp z).2)]
/-- what comes out of each of these words -/
def outEach (W : List (List Int)) (ws : List Int) : List Int := filt W.length fun o => ws.all fun x => decide ((o : Int) ∈ row W x.toNat)
/-- the words that lead only into these -/
def onlyInto (L : List (List Int)) (outs : List Int) : List Int := filt L.length fun x => (row L x).all fun o => decide (o ∈ outs)
def rsh (F W : List (List Int)) : List (List Int) := (inv F).map fun r => outEach W r
def lsh (W L : List (List Int)) : List (List Int) := W.map fun r => onlyInto L r
theorem rsh_len (F W : List (List Int)) : (rsh F W).length = F.length := by unfold rsh; rw [List.length_map, inv_len]
theorem lsh_len (F W : List (List Int)) : (lsh F W).length = F.length := by unfold lsh; rw [List.length_map]
theorem rsh_can {F W : List (List Int)} (h : F.length = W.length) : CanR F.length (rsh F W) := by
  refine ⟨rsh_len F W, fun r hr => ?_⟩
  unfold rsh at hr
  obtain ⟨w, _, rfl⟩ := List.mem_map.mp hr
  rw [h]
  exact filt_can _
theorem lsh_can {W L : List (List Int)} (h : W.length = L.length) : CanR W.length (lsh W L) := by
  refine ⟨lsh_len W L, fun r hr => ?_⟩
  unfold lsh at hr
  obtain ⟨w, _, rfl⟩ := List.mem_map.mp hr
  rw [h]
  exact filt_can _
theorem map_row {R : List (List Int)} {f : List Int → List Int} {j : Nat} (h : j < R.length) : row (R.map f) j = f (row R j) := by
  refine row_of ?_
  rw [List.getElem?_map, at_row h]
  rfl
theorem rsh_row {F W : List (List Int)} {j : Nat} (h : j < F.length) : row (rsh F W) j = outEach W (row (inv F) j) := map_row (by rw [inv_len]; exact h)
theorem lsh_row {W L : List (List Int)} {j : Nat} (h : j < W.length) : row (lsh W L) j = onlyInto L (row W j) := map_row h
end Toy
namespace Toy
open PySem L2
abbrev sChSame : Stmt := top 10
abbrev sInvert : Stmt := inClass sTable 28
abbrev sOnly : Stmt := inClass sTable 13
abbrev sEach : Stmt := inClass sTable 12
abbrev sLsh : Stmt := inClass sTable 31
abbrev sRsh : Stmt := inClass sTable 30
theorem rgV_vI (n : Nat) : rgV 0 (n : Int) = vI ((List.range n).map fun (i : Nat) => (i : Int)) := by
  unfold rgV vI
  rw [List.map_map]
  have e : ((n : Int) - 0).toNat = n := by omega
  rw [e]
  refine List.map_congr_left fun i _ => ?_
  show V.int (0 + (i : Int)) = V.int (i : Int)
  rw [Int.zero_add]
theorem all_at {n i : Nat} {x : Int} (h : ((List.range n).map fun (i : Nat) => (i : Int))[i]? = some x) : x = (i : Int) ∧ i < n := by
  rw [List.getElem?_map] at h
  cases e : (List.range n)[i]? with
  | none =>
    rw [e] at h
    cases h
  | some y =>
    rw [e] at h
    have h1 := (List.getElem?_eq_some_iff.mp e).1
    rw [List.length_range] at h1
    rw [List.getElem?_range h1] at e
    cases e
    exact ⟨(Option.some.inj h).symm, h1⟩
theorem RowsL.snoc {G : Hp} {l t : Addr} {o : HO} {ls R r} (h : RowsL G ls R) (nl : ∀ v ∈ ls, v ≠ .ref l) (ht : G t = some (.lst (vI r))) (n : t ≠ l) :
    RowsL (upd G l o) (ls ++ [.ref t]) (R ++ [r]) ∧ ∀ v ∈ ls ++ [V.ref t], v ≠ .ref l := by
  refine ⟨L2.Paired.snoc ⟨t, rfl, by rw [upd_ne n]; exact ht⟩ (PairedIn.map h fun v r hv ⟨t', e, q⟩ => ⟨t', e, ?_⟩), fun v hv => ?_⟩
  · rw [upd_ne fun z => nl v hv (by rw [e, z])]
    exact q
  · rcases List.mem_append.mp hv with hv | hv
    · exact nl v hv
    · rw [List.mem_singleton.mp hv]
      exact fun z => n (V.ref.inj z)
def spChSame (C : Addr) : Sp := fun vs H Q _ => ∃ (p q : Addr) (R W : List (List Int)), vs = [.ref p, .ref q] ∧ Tab C H p R ∧ Tab C H q W ∧ R.length = W.length ∧ Q .non H
def spInvert (C : Addr) : Sp := fun vs H Q _ => ∃ (p : Addr) (R : List (List Int)), vs = [.ref p] ∧ Tab C H p R ∧ ∀ H' x, Same H H' → H x = none → Tab C H' x (inv R) → Q (.ref x) H'
def spOnly (K : PySem.W.Frag) (C : Addr) : Sp := fun vs H Q _ => ∃ (p o : Addr) (L : List (List Int)) (outs : List Int), vs = [.ref p, .ref o] ∧ Tab C H p L ∧ Sq K H o outs ∧ ∀ H' d, Same H H' → H d = none → H' d = some (.lst (vI (onlyInto L outs))) → Q (.ref d) H'
def spEach (C : Addr) : Sp := fun vs H Q _ => ∃ (p o : Addr) (W : List (List Int)) (ws : List Int), vs = [.ref p, .ref o] ∧ Tab C H p W ∧ H o = some (.tup (vI ws)) ∧ ws.length ≤ 6 ∧ (∀ x ∈ ws, 0 ≤ x ∧ x < (W.length : Int)) ∧ ∀ H' d, Same H H' → H d = none → H' d = some (.lst (vI (outEach W ws))) → Q (.ref d) H'
def spSh (C : Addr) (f : List (List Int) → List (List Int) → List (List Int)) : Sp := fun vs H Q _ => ∃ (p q : Addr) (R W : List (List Int)), vs = [.ref p, .ref q] ∧ Tab C H p R ∧ Tab C H q W ∧ R.length = W.length ∧ ∀ H' x, Same H H' → H x = none → Tab C H' x (f R W) → Q (.ref x) H'
section
variable {P : Program} {w : World} {K : PySem.W.Frag} {mg : Str → Option Value} {base : Heap}
theorem scChSame : FnScope ["first", "second"] ["first", "second"] (defScope sChSame) := ⟨rfl, rfl, rfl, by decide +kernel, rfl, by decide +kernel, by decide +kernel⟩
theorem ok_chSame {f C : Addr} {fd : FuncData} (F : Fun K "check_same_size" "check_same_size" sChSame f fd) (T : CT K mg C) : FnOk P w K mg base CX0 1 f fd ["first", "second"] (spChSame C) := by
  refine F.ok scChSame (fun vs H Q E h => ?_) (fun cdv A outer s H vs Q E hr h => ?_)
  · obtain ⟨p, q, R, W, rfl, _⟩ := h
    rfl
  · obtain ⟨p, q, R, W, rfl, hT, hT2, e, k⟩ := h
    obtain ⟨dx, tr, tp, ts, qs, h1, _⟩ := id hT
    obtain ⟨dx2, tr2, tp2, ts2, qs2, h2, _⟩ := id hT2
    refine ⟨_, pss_one (ps_if (pt_cmpR op_ne (pe_fld (pv 0) rfl) (pe_fld (pv 1) rfl) (nomark _)) (pss_one ps_never) pss_nil), ?_⟩
    exact ⟨_, rfl, p, C, dx, _, _, rfl, h1, T.cl, T.nS, tf_size _ _ _, _, rfl, q, C, dx2, _, _, rfl, h2, T.cl, T.nS, tf_size _ _ _, rfl, _, rfl, iteNS (by rw [e]) k⟩
theorem scInvert : FnScope ["self", "words", "told", "word"] ["self"] (defScope sInvert) := ⟨rfl, rfl, rfl, by decide +kernel, rfl, by decide +kernel, by decide +kernel⟩
theorem ok_invert {f n C : Addr} {fd fdn : FuncData} (F : Fun K "__invert__" "Table.__invert__" sInvert f fd) (S : Gs K mg C) (N : Fun K "__init__" "Table.__init__" sInit n fdn) (M : Mk K C n) (bN : Binds K fdn ["self", "rows"] []) :
    FnOk P w K mg base CX0 5 f fd ["self"] (spInvert C) := by
  have B := S.B
  refine F.ok scInvert (fun vs H Q E h => ?_) (fun cdv A outer s H vs Q E hr h => ?_)
  · obtain ⟨p, R, rfl, _⟩ := h
    rfl
  · obtain ⟨p, R, rfl, hT, k⟩ := h
    obtain ⟨dx, tr, tp, ts, qs, h1, h2, h3, h4, h5, h6, h7, h8, h9⟩ := id hT
    refine ⟨_, pss_cons (ps_set (i := 1) scInvert.nd rfl (Or.inr rfl) (pe_listRg rfl (by rfl) B.list (prg_1 (by rfl) B.range (pe_fld (pv 0) rfl))))
      (pss_one (ps_ret (pe_make M (ok_init N S) hr rfl S.T.mgC bN .nil pass0 (pa_cons
        (pe_lc (own := [("word", 3)]) (g := gName 3) (tt := tYes) (te := tLc (iList K (tVar 1)) (gName 2) (tTest (tOp (rIn K false) (tVar 3) (tOp (rIxT K) (tFld K (tVar 0) "_rows") (tVar 2)))) (tVar 2) [2]) rfl scInvert.nd (pi_list (pv 1)) (blkOk_by (own := [("word", 3)]) (N := ["self", "words", "told", "word"]) (sc := defScope sInvert) (by decide +kernel))
          (fun _ _ _ _ _ => pg_name (i := 3) scInvert.nd rfl (Or.inr rfl)) (fun _ _ _ _ _ => pts_nil)
          (fun _ _ _ _ _ => pe_lc (own := [("told", 2)]) (g := gName 2) (tt := tTest (tOp (rIn K false) (tVar 3) (tOp (rIxT K) (tFld K (tVar 0) "_rows") (tVar 2)))) rfl scInvert.nd (pi_list (pv 1)) (blkOk_re (N := ["self", "words", "told", "word"]) (by decide +kernel))
            (fun _ _ _ _ _ => pg_name (i := 2) scInvert.nd rfl (Or.inl rfl)) (fun _ _ _ _ _ => pts_one (pt_cmpR op_in_seq (pv 3) (pe_ix ix_tup (pe_fld (pv 0) rfl) (pv 2) (fun _ _ => rfl)) (by rfl))) (fun _ _ _ _ _ => pv 2))) pa_nil)))), ?_⟩
    have h6' : (R.length : Int) ≤ 16777216 := by omega
    refine ⟨_, rfl, p, C, dx, _, _, rfl, h1, S.T.cl, S.T.nS, tf_size _ _ _, _, rfl, RgOk.of_le (by omega) (by omega) (by omega) (by omega), fun q hq => ?_⟩
    rw [rgV_vI]
    have s0 := Same.new (H := H) (o := .lst (vI ((List.range R.length).map fun (i : Nat) => (i : Int)))) hq
    have hq0 : upd H q (.lst (vI ((List.range R.length).map fun (i : Nat) => (i : Int)))) q = some (.lst (vI ((List.range R.length).map fun (i : Nat) => (i : Int)))) := upd_same
    generalize upd H q (.lst (vI ((List.range R.length).map fun (i : Nat) => (i : Int)))) = H1 at s0 hq0
    have lq : (vI ((List.range R.length).map fun (i : Nat) => (i : Int))).length = R.length := by rw [vI_len, List.length_map, List.length_range]
    refine ⟨_, rfl, q, rfl, ⟨_, SqL.of hq0⟩, fun D hD => ?_⟩
    refine lc_list (K := K) (a := q) (xs := vI ((List.range R.length).map fun (i : Nat) => (i : Int))) (fun i H' => Same H1 H' ∧ ∃ ks, H' D = some (.lst ks) ∧ RowsL H' ks ((inv R).take i) ∧ ∀ v ∈ ks, v ≠ .ref D) ⟨Same.new hD, [], upd_same, .nil, fun _ h => by cases h⟩ (fun i H' _ ⟨s, _⟩ => SqL.of (s _ _ hq0)) ?_ ?_
    · rintro i y H2 hi ⟨s2, ks, hk, hKs, nD⟩
      obtain ⟨xi, hxi, rfl⟩ := vI_at hi
      obtain ⟨rfl, hin⟩ := all_at hxi
      refine ⟨rfl, yesT (iteT ?_)⟩
      refine ⟨_, rfl, q, rfl, ⟨_, SqL.of (s2 _ _ hq0)⟩, fun D2 hD2 => ?_⟩
      refine lc_list (K := K) (a := q) (xs := vI ((List.range R.length).map fun (i : Nat) => (i : Int))) (fun j H' => Same H2 H' ∧ H' D2 = some (.lst (vI (filt j fun t => decide ((i : Int) ∈ row R t))))) ⟨Same.new hD2, upd_same⟩ (fun j H' _ ⟨s, _⟩ => SqL.of ((s2.trans s) _ _ hq0)) ?_ ?_
      · rintro j y H3 hj ⟨s3, hd3⟩
        obtain ⟨xj, hxj, rfl⟩ := vI_at hj
        obtain ⟨rfl, hjn⟩ := all_at hxj
        have sH := s0.trans (s2.trans s3)
        obtain ⟨v, hv, t, rfl, ht⟩ := L2.Paired.at2 (RowsT.same sH h4) (at_row hjn)
        refine ⟨rfl, ?_⟩
        refine ⟨_, rfl, _, rfl, p, C, dx, _, _, rfl, sH _ _ h1, S.T.cl, S.T.nR, tf_rows _ _ _, _, rfl, tr, ts, (j : Int), _, rfl, rfl, SqT.of (sH _ _ h3), atI_nat hv, t, _, rfl, .inr (SqT.of ht), rfl, flat_vI _, _, rfl, ?_⟩
        show if (if false = true then !inV (.int (i : Int)) (vI (row R j)) else inV (.int (i : Int)) (vI (row R j))) = true then _ else _
        rw [if_neg Bool.false_ne_true, inV_vI]
        by_cases hm : (i : Int) ∈ row R j
        · rw [decide_eq_true hm]
          refine iteT ?_
          refine ⟨_, rfl, _, hd3, ?_, Same.updN s3 hD2, ?_⟩
          · rw [vI_len]
            exact Nat.lt_of_le_of_lt (Nat.le_trans (filt_len _ _) (by omega : j ≤ 6)) (by decide)
          · rw [upd_same, filt_yes (decide_eq_true hm)]
            unfold vI
            rw [List.map_append]
            rfl
        · rw [decide_eq_false hm]
          refine iteF ⟨s3, ?_⟩
          rw [filt_no (decide_eq_false hm)]
          exact hd3
      · rintro H3 ⟨s3, hd3⟩
        rw [lq] at hd3
        have nD2 : D2 ≠ D := (ne_of_none hk hD2).symm
        obtain ⟨z1, z2⟩ := RowsL.snoc (o := .lst (ks ++ [.ref D2])) (RowsL.same s3 hKs) nD hd3 nD2
        refine ⟨ks, s3 _ _ hk, ?_, Same.updN (s2.trans s3) hD, ks ++ [.ref D2], upd_same, ?_, z2⟩
        · rw [Paired.length hKs]
          refine Nat.lt_of_le_of_lt (Nat.le_trans (List.length_take_le' _ _) (?_ : _ ≤ 6)) (by decide)
          rw [inv_len]
          exact h8
        · have e : (inv R)[i]? = some (filt R.length fun t => decide ((i : Int) ∈ row R t)) := by
            rw [at_row (by rw [inv_len]; exact hin), inv_row hin]
          rw [take_more e]
          exact z1
    · rintro H2 ⟨s2, ks, hk, hKs, nD⟩
      rw [lq] at hKs
      have ek : (inv R).take R.length = inv R := List.take_of_length_le (by rw [inv_len]; exact Nat.le_refl _)
      rw [ek] at hKs
      have hC := inv_can R
      refine fun x dx2 hx hdx ndx => ?_
      have s6 : Same H2 (upd (upd H2 dx2 (.own x)) x (.ins C dx2 [])) := Same.upd (Same.new hdx) (by rw [upd_ne ndx.symm]; exact hx)
      refine ⟨x, dx2, D, ks, inv R, rfl, upd_same, by rw [upd_ne ndx]; exact upd_same, s6 _ _ hk, RowsL.same s6 hKs, by rw [inv_len]; omega, by rw [inv_len]; omega, by rw [inv_len]; exact can_all hC.2 h8, fun H3 k3 hT3 => ⟨rfl, ?_⟩⟩
      rw [inv_len, same_rows hC.2] at hT3
      have s13 := s0.trans s2
      exact k H3 x (fun q o e => k3 q o (ne_of_none (s13 _ _ e) hx) (s6 _ _ (s13 _ _ e))) (s13.free hx) hT3
end
end Toy
namespace Toy
open PySem L2
theorem tf_only' (n : Nat) (tr tp : Addr) : (tf n tr tp).lookup ("_only_into" : Str) = none := tf_no _ _ _ (by decide +kernel) (by decide +kernel) (by decide +kernel)
theorem tf_each' (n : Nat) (tr tp : Addr) : (tf n tr tp).lookup ("_out_of_each" : Str) = none := tf_no _ _ _ (by decide +kernel) (by decide +kernel) (by decide +kernel)
section
variable {P : Program} {w : World} {K : PySem.W.Frag} {mg : Str → Option Value} {base : Heap}
theorem scOnly : FnScope ["self", "outs", "word", "out"] ["self", "outs"] (defScope sOnly) := ⟨rfl, rfl, rfl, by decide +kernel, rfl, by decide +kernel, by decide +kernel⟩
theorem ok_only {f C : Addr} {fd : FuncData} (F : Fun K "_only_into" "Table._only_into" sOnly f fd) (S : Gs K mg C) : FnOk P w K mg base CX0 1 f fd ["self", "outs"] (spOnly K C) := by
  have B := S.B
  refine F.ok scOnly (fun vs H Q E h => ?_) (fun cdv A outer s H vs Q E hr h => ?_)
  · obtain ⟨p, o, L, outs, rfl, _⟩ := h
    rfl
  · obtain ⟨p, o, L, outs, rfl, hT, ho, k⟩ := h
    obtain ⟨dx, tr, tp, ts, qs, h1, h2, h3, h4, h5, h6, h7, h8, h9⟩ := id hT
    refine ⟨_, pss_one (ps_ret (pe_lc (own := [("word", 2)]) (g := gName 2) (tt := tB (tCB (rAll K) (tCons (tLc (iTup K (tOp (rIxT K) (tFld K (tVar 0) "_rows") (tVar 2))) (gName 3) tYes (tOp (rIn K false) (tVar 3) (tVar 1)) [3]) tNil))) rfl scOnly.nd
        (pi_range1 (by rfl) B.range (pa_cons (pe_fld (pv 0) rfl) pa_nil)) (blkOk_by (own := [("word", 2)]) (N := ["self", "outs", "word", "out"]) (sc := defScope sOnly) (by decide +kernel))
        (fun _ _ _ _ _ => pg_name (i := 2) scOnly.nd rfl (Or.inl rfl))
        (fun _ _ _ _ _ => pts_one (pt_val (pe_callB (cr_all rfl) (by rfl) B.all (by decide +kernel) (pa_cons
          (pe_lc (own := [("out", 3)]) (g := gName 3) (tt := tYes) (te := tOp (rIn K false) (tVar 3) (tVar 1)) rfl scOnly.nd (pi_tup (pe_ix ix_tup (pe_fld (pv 0) rfl) (pv 2) (fun _ _ => rfl))) (blkOk_re (N := ["self", "outs", "word", "out"]) (by decide +kernel))
            (fun _ _ _ _ _ => pg_name (i := 3) scOnly.nd rfl (Or.inl rfl)) (fun _ _ _ _ _ => pts_nil) (fun _ _ _ _ _ => pe_cmpR op_in_seq (pv 3) (pv 1) (by rfl))) pa_nil))))
        (fun _ _ _ _ _ => pv 2))), ?_⟩
    refine ⟨_, rfl, p, C, dx, _, _, rfl, h1, S.T.cl, S.T.nS, tf_size _ _ _, _, rfl, by omega, by omega, fun D hD => ?_⟩
    refine lc_range (lo := 0) (n := L.length) (fun i H' => Same H H' ∧ H' D = some (.lst (vI (filt i fun x => (row L x).all fun o => decide (o ∈ outs))))) ⟨Same.new hD, upd_same⟩ ?_ ?_
    · rintro i H1 hi ⟨s1, hd⟩
      have e0 : (0 : Int) + (i : Int) = (i : Int) := Int.zero_add _
      rw [e0]
      obtain ⟨v, hv, t, rfl, ht⟩ := L2.Paired.at2 (RowsT.same s1 h4) (at_row hi)
      refine ⟨rfl, ?_⟩
      refine ⟨_, rfl, p, C, dx, _, _, rfl, s1 _ _ h1, S.T.cl, S.T.nR, tf_rows _ _ _, _, rfl, tr, ts, (i : Int), _, rfl, rfl, SqT.of (s1 _ _ h3), atI_nat hv, t, rfl, ⟨_, SqT.of ht⟩, fun D2 hD2 => ?_⟩
      have r6 := h9 _ (List.mem_of_getElem? (at_row hi))
      refine lc_tup (K := K) (a := t) (xs := vI (row L i)) (fun j H' => Same H1 H' ∧ H' D2 = some (.lst (((row L i).take j).map fun o => V.bl (decide (o ∈ outs))))) ⟨Same.new hD2, upd_same⟩ (fun j H' _ ⟨s, _⟩ => SqT.of (s _ _ ht)) ?_ ?_
      · rintro j y H2 hj ⟨s2, hd2⟩
        obtain ⟨x, hx, rfl⟩ := vI_at hj
        refine ⟨rfl, yesT (iteT ?_)⟩
        refine ⟨_, rfl, _, rfl, o, _, rfl, Sq.same (s1.trans s2) ho, rfl, flat_vI _, ?_⟩
        refine ⟨_, hd2, ?_, Same.updN s2 hD2, ?_⟩
        · rw [List.length_map]
          exact Nat.lt_of_le_of_lt (Nat.le_trans (List.length_take_le' _ _) r6) (by decide)
        · rw [upd_same, take_more hx, List.map_append]
          show some (HO.lst (_ ++ [V.bl (if false = true then !inV (.int x) (vI outs) else inV (.int x) (vI outs))])) = _
          rw [if_neg Bool.false_ne_true, inV_vI]
          rfl
      · rintro H2 ⟨s2, hd2⟩
        rw [vI_len, List.take_length] at hd2
        refine ⟨D2, (row L i).map (fun o => decide (o ∈ outs)), rfl, SqL.of (by rw [hd2, List.map_map]; rfl), _, rfl, ?_⟩
        have ea : ((row L i).map (fun o => decide (o ∈ outs))).all id = (row L i).all fun o => decide (o ∈ outs) := by rw [List.all_map]; rfl
        rw [ea]
        have hd3 := s2 _ _ hd
        by_cases hm : ((row L i).all fun o => decide (o ∈ outs)) = true
        · rw [hm]
          refine iteT ?_
          refine ⟨_, rfl, _, hd3, ?_, Same.updN (s1.trans s2) hD, ?_⟩
          · rw [vI_len]
            exact Nat.lt_of_le_of_lt (Nat.le_trans (filt_len _ _) (by omega : i ≤ 6)) (by decide)
          · rw [upd_same, filt_yes hm]
            unfold vI
            rw [List.map_append]
            rfl
        · have hm' : ((row L i).all fun o => decide (o ∈ outs)) = false := by simpa using hm
          rw [hm']
          refine iteF ⟨s1.trans s2, ?_⟩
          rw [filt_no hm']
          exact hd3
    · rintro H1 ⟨s1, hd⟩
      exact k H1 D s1 hD hd
theorem scEach : FnScope ["self", "words", "out", "word"] ["self", "words"] (defScope sEach) := ⟨rfl, rfl, rfl, by decide +kernel, rfl, by decide +kernel, by decide +kernel⟩
theorem ok_each {f C : Addr} {fd : FuncData} (F : Fun K "_out_of_each" "Table._out_of_each" sEach f fd) (S : Gs K mg C) : FnOk P w K mg base CX0 1 f fd ["self", "words"] (spEach C) := by
  have B := S.B
  refine F.ok scEach (fun vs H Q E h => ?_) (fun cdv A outer s H vs Q E hr h => ?_)
  · obtain ⟨p, o, W, ws, rfl, _⟩ := h
    rfl
  · obtain ⟨p, o, W, ws, rfl, hT, ho, w6, hw, k⟩ := h
    obtain ⟨dx, tr, tp, ts, qs, h1, h2, h3, h4, h5, h6, h7, h8, h9⟩ := id hT
    refine ⟨_, pss_one (ps_ret (pe_lc (own := [("out", 2)]) (g := gName 2) (tt := tB (tCB (rAll K) (tCons (tLc (iTup K (tVar 1)) (gName 3) tYes (tOp (rIn K false) (tVar 2) (tOp (rIxT K) (tFld K (tVar 0) "_rows") (tVar 3))) [3]) tNil))) rfl scEach.nd
        (pi_range1 (by rfl) B.range (pa_cons (pe_fld (pv 0) rfl) pa_nil)) (blkOk_by (own := [("out", 2)]) (N := ["self", "words", "out", "word"]) (sc := defScope sEach) (by decide +kernel))
        (fun _ _ _ _ _ => pg_name (i := 2) scEach.nd rfl (Or.inr rfl))
        (fun _ _ _ _ _ => pts_one (pt_val (pe_callB (cr_all rfl) (by rfl) B.all (by decide +kernel) (pa_cons
          (pe_lc (own := [("word", 3)]) (g := gName 3) (tt := tYes) (te := tOp (rIn K false) (tVar 2) (tOp (rIxT K) (tFld K (tVar 0) "_rows") (tVar 3))) rfl scEach.nd (pi_tup (pv 1)) (blkOk_re (N := ["self", "words", "out", "word"]) (by decide +kernel))
            (fun _ _ _ _ _ => pg_name (i := 3) scEach.nd rfl (Or.inl rfl)) (fun _ _ _ _ _ => pts_nil) (fun _ _ _ _ _ => pe_cmpR op_in_seq (pv 2) (pe_ix ix_tup (pe_fld (pv 0) rfl) (pv 3) (fun _ _ => rfl)) (by rfl))) pa_nil))))
        (fun _ _ _ _ _ => pv 2))), ?_⟩
    refine ⟨_, rfl, p, C, dx, _, _, rfl, h1, S.T.cl, S.T.nS, tf_size _ _ _, _, rfl, by omega, by omega, fun D hD => ?_⟩
    refine lc_range (lo := 0) (n := W.length) (fun i H' => Same H H' ∧ H' D = some (.lst (vI (filt i fun o => ws.all fun x => decide ((o : Int) ∈ row W x.toNat))))) ⟨Same.new hD, upd_same⟩ ?_ ?_
    · rintro i H1 hi ⟨s1, hd⟩
      have e0 : (0 : Int) + (i : Int) = (i : Int) := Int.zero_add _
      rw [e0]
      refine ⟨rfl, ?_⟩
      refine ⟨_, rfl, o, rfl, ⟨_, SqT.of (s1 _ _ ho)⟩, fun D2 hD2 => ?_⟩
      refine lc_tup (K := K) (a := o) (xs := vI ws) (fun j H' => Same H1 H' ∧ H' D2 = some (.lst ((ws.take j).map fun x => V.bl (decide ((i : Int) ∈ row W x.toNat))))) ⟨Same.new hD2, upd_same⟩ (fun j H' _ ⟨s, _⟩ => SqT.of ((s1.trans s) _ _ ho)) ?_ ?_
      · rintro j y H2 hj ⟨s2, hd2⟩
        obtain ⟨x, hx, rfl⟩ := vI_at hj
        have sH := s1.trans s2
        obtain ⟨x0, x1⟩ := hw x (List.mem_of_getElem? hx)
        obtain ⟨m, rfl⟩ := Int.eq_ofNat_of_zero_le x0
        have hm : m < W.length := by omega
        obtain ⟨v, hv, t, rfl, ht⟩ := L2.Paired.at2 (RowsT.same sH h4) (at_row hm)
        refine ⟨rfl, yesT (iteT ?_)⟩
        refine ⟨_, rfl, _, rfl, p, C, dx, _, _, rfl, sH _ _ h1, S.T.cl, S.T.nR, tf_rows _ _ _, _, rfl, tr, ts, (m : Int), _, rfl, rfl, SqT.of (sH _ _ h3), atI_nat hv, t, _, rfl, .inr (SqT.of ht), rfl, flat_vI _, ?_⟩
        refine ⟨_, hd2, ?_, Same.updN s2 hD2, ?_⟩
        · rw [List.length_map]
          exact Nat.lt_of_le_of_lt (Nat.le_trans (List.length_take_le' _ _) w6) (by decide)
        · rw [upd_same, take_more hx, List.map_append]
          show some (HO.lst (_ ++ [V.bl (if false = true then !inV (.int (i : Int)) (vI (row W m)) else inV (.int (i : Int)) (vI (row W m)))])) = _
          rw [if_neg Bool.false_ne_true, inV_vI]
          rfl
      · rintro H2 ⟨s2, hd2⟩
        rw [vI_len, List.take_length] at hd2
        refine ⟨D2, ws.map (fun x => decide ((i : Int) ∈ row W x.toNat)), rfl, SqL.of (by rw [hd2, List.map_map]; rfl), _, rfl, ?_⟩
        have ea : (ws.map (fun x => decide ((i : Int) ∈ row W x.toNat))).all id = ws.all fun x => decide ((i : Int) ∈ row W x.toNat) := by rw [List.all_map]; rfl
        rw [ea]
        have hd3 := s2 _ _ hd
        by_cases hm : (ws.all fun x => decide ((i : Int) ∈ row W x.toNat)) = true
        · rw [hm]
          refine iteT ?_
          refine ⟨_, rfl, _, hd3, ?_, Same.updN (s1.trans s2) hD, ?_⟩
          · rw [vI_len]
            exact Nat.lt_of_le_of_lt (Nat.le_trans (filt_len _ _) (by omega : i ≤ 6)) (by decide)
          · rw [upd_same, filt_yes hm]
            unfold vI
            rw [List.map_append]
            rfl
        · have hm' : (ws.all fun x => decide ((i : Int) ∈ row W x.toNat)) = false := by simpa using hm
          rw [hm']
          refine iteF ⟨s1.trans s2, ?_⟩
          rw [filt_no hm']
          exact hd3
    · rintro H1 ⟨s1, hd⟩
      exact k H1 D s1 hD hd
end
end Toy
namespace Toy
open PySem L2
section
variable {P : Program} {w : World} {K : PySem.W.Frag} {mg : Str → Option Value} {base : Heap}
theorem scLsh : FnScope ["self", "other", "row"] ["self", "other"] (defScope sLsh) := ⟨rfl, rfl, rfl, by decide +kernel, rfl, by decide +kernel, by decide +kernel⟩
theorem ok_Lsh {f n g c C : Addr} {fd fdn fdg fdc : FuncData} (F : Fun K "__lshift__" "Table.__lshift__" sLsh f fd) (S : Gs K mg C) (N : Fun K "__init__" "Table.__init__" sInit n fdn) (M : Mk K C n) (bN : Binds K fdn ["self", "rows"] [])
    (G : Fun K "_only_into" "Table._only_into" sOnly g fdg) (mG : Meth K C "_only_into" g) (bG : Binds K fdg ["self", "outs"] []) (Z : Fun K "check_same_size" "check_same_size" sChSame c fdc) (mZ : mg "check_same_size" = some (.ref c)) (bZ : Binds K fdc ["first", "second"] []) :
    FnOk P w K mg base CX0 5 f fd ["self", "other"] (spSh C lsh) := by
  have B := S.B
  refine F.ok scLsh (fun vs H Q E h => ?_) (fun cdv A outer s H vs Q E hr h => ?_)
  · obtain ⟨p, q, R, W, rfl, _⟩ := h
    rfl
  · obtain ⟨p, q, R, W, rfl, hT, hT2, eRW, k⟩ := h
    have hr1 : Room 1 _ := hr.mono (by decide)
    have hr4 : Room 4 _ := hr.mono (by decide)
    refine ⟨_, pss_cons (ps_expr (pe_call (ok_chSame Z S.T) hr1 rfl mZ Z.kp bZ .nil pass0 (pa_cons (pv 0) (pa_cons (pv 1) pa_nil))))
      (pss_one (ps_ret (pe_make M (ok_init N S) hr4 rfl S.T.mgC bN .nil pass0 (pa_cons
        (pe_lc (own := [("row", 2)]) (g := gName 2) (tt := tYes) (te := tMeth C "_only_into" (spOnly K C) [] E0 (tVar 1) (tCons (tVar 2) tNil)) rfl scLsh.nd (pi_tup (pe_fld (pv 0) rfl)) (blkOk_by (own := [("row", 2)]) (N := ["self", "other", "row"]) (sc := defScope sLsh) (by decide +kernel))
          (fun _ _ _ _ _ => pg_name (i := 2) scLsh.nd rfl (Or.inl rfl)) (fun _ _ _ _ _ => pts_nil) (fun _ _ _ _ _ => pe_meth (pv 1) S.T.cl mG (ok_only G S) hr1 bG .nil pass0 (pa_cons (pv 2) pa_nil))) pa_nil)))), ?_⟩
    refine ⟨_, rfl, _, rfl, p, q, R, W, rfl, hT, hT2, eRW, ?_⟩
    obtain ⟨dx, tr, tp, ts, qs, h1, h2, h3, h4, h5, h6, h7, h8, h9⟩ := id hT
    obtain ⟨dxq, trq, tpq, tsq, qsq, g1, _⟩ := id hT2
    refine ⟨_, rfl, p, C, dx, _, _, rfl, h1, S.T.cl, S.T.nR, tf_rows _ _ _, tr, rfl, ⟨_, SqT.of h3⟩, fun D hD => ?_⟩
    refine lc_tup (K := K) (a := tr) (xs := ts) (fun i H' => Same H H' ∧ ∃ ks, H' D = some (.lst ks) ∧ RowsL H' ks ((lsh R W).take i) ∧ ∀ v ∈ ks, v ≠ .ref D) ⟨Same.new hD, [], upd_same, .nil, fun _ h => by cases h⟩ (fun i H' _ ⟨s, _⟩ => SqT.of (s _ _ h3)) ?_ ?_
    · rintro i y H2 hi ⟨s2, ks, hk, hKs, nD⟩
      obtain ⟨r, hr0, t, rfl, ht⟩ := L2.Paired.at (RowsT.same s2 h4) hi
      have hi' : i < R.length := (List.getElem?_eq_some_iff.mp hr0).1
      refine ⟨rfl, yesT (iteT ?_)⟩
      refine ⟨_, rfl, q, dxq, _, rfl, s2 _ _ g1, tf_only' _ _ _, _, rfl, q, t, W, r, rfl, hT2.same s2, .inr (SqT.of ht), fun H3 d s3 d0 hd => ?_⟩
      have nDd : d ≠ D := (ne_of_none hk d0).symm
      obtain ⟨z1, z2⟩ := RowsL.snoc (o := .lst (ks ++ [.ref d])) (RowsL.same s3 hKs) nD hd nDd
      refine ⟨ks, s3 _ _ hk, ?_, Same.updN (s2.trans s3) hD, ks ++ [.ref d], upd_same, ?_, z2⟩
      · rw [Paired.length hKs]
        refine Nat.lt_of_le_of_lt (Nat.le_trans (List.length_take_le' _ _) (?_ : _ ≤ 6)) (by decide)
        rw [lsh_len]
        omega
      · have e : (lsh R W)[i]? = some (onlyInto W r) := by
          rw [at_row (by rw [lsh_len]; omega), lsh_row (by omega), row_of hr0]
        rw [take_more e]
        exact z1
    · rintro H2 ⟨s2, ks, hk, hKs, nD⟩
      have lt : ts.length = R.length := Paired.length h4
      have ek : (lsh R W).take ts.length = lsh R W := List.take_of_length_le (by rw [lsh_len]; omega)
      rw [ek] at hKs
      have hC := lsh_can eRW
      refine fun x dx2 hx hdx ndx => ?_
      have s6 : Same H2 (upd (upd H2 dx2 (.own x)) x (.ins C dx2 [])) := Same.upd (Same.new hdx) (by rw [upd_ne ndx.symm]; exact hx)
      refine ⟨x, dx2, D, ks, lsh R W, rfl, upd_same, by rw [upd_ne ndx]; exact upd_same, s6 _ _ hk, RowsL.same s6 hKs, by rw [lsh_len]; omega, by rw [lsh_len]; omega, by rw [lsh_len]; exact can_all hC.2 (by omega), fun H3 k3 hT3 => ⟨rfl, ?_⟩⟩
      rw [lsh_len, same_rows hC.2] at hT3
      have s13 := s2
      exact k H3 x (fun q o e => k3 q o (ne_of_none (s13 _ _ e) hx) (s6 _ _ (s13 _ _ e))) (s13.free hx) hT3
theorem scRsh : FnScope ["self", "other", "leading", "row"] ["self", "other"] (defScope sRsh) := ⟨rfl, rfl, rfl, by decide +kernel, rfl, by decide +kernel, by decide +kernel⟩
theorem ok_Rsh {f n g c C : Addr} {fd fdn fdg fdc : FuncData} (F : Fun K "__rshift__" "Table.__rshift__" sRsh f fd) (S : Gs K mg C) (N : Fun K "__init__" "Table.__init__" sInit n fdn) (M : Mk K C n) (bN : Binds K fdn ["self", "rows"] [])
    (G : Fun K "_out_of_each" "Table._out_of_each" sEach g fdg) (mG : Meth K C "_out_of_each" g) (bG : Binds K fdg ["self", "words"] []) (Z : Fun K "check_same_size" "check_same_size" sChSame c fdc) (mZ : mg "check_same_size" = some (.ref c)) (bZ : Binds K fdc ["first", "second"] [])
    {j : Addr} {fdj : FuncData} (J : Fun K "__invert__" "Table.__invert__" sInvert j fdj) (mJ : PySem.W.findIn K (.ref C) "__invert__" = some (some (.ref j))) (mJ2 : PySem.W.isFn K (.ref j) = true) (bJ : Binds K fdj ["self"] []) :
    FnOk P w K mg base CX0 6 f fd ["self", "other"] (spSh C rsh) := by
  have B := S.B
  refine F.ok scRsh (fun vs H Q E h => ?_) (fun cdv A outer s H vs Q E hr h => ?_)
  · obtain ⟨p, q, R, W, rfl, _⟩ := h
    rfl
  · obtain ⟨p, q, R, W, rfl, hT, hT2, eRW, k⟩ := h
    have hr1 : Room 1 _ := hr.mono (by decide)
    have hr4 : Room 4 _ := hr.mono (by decide)
    refine ⟨_, pss_cons (ps_expr (pe_call (ok_chSame Z S.T) hr1 rfl mZ Z.kp bZ .nil pass0 (pa_cons (pv 0) (pa_cons (pv 1) pa_nil))))
      (pss_cons (ps_set (i := 2) scRsh.nd rfl (Or.inl rfl) (pe_un (un_own (ok_invert J S N M bN) hr bJ pass0 mJ mJ2) (pv 0)))
      (pss_one (ps_ret (pe_make M (ok_init N S) hr4 rfl S.T.mgC bN .nil pass0 (pa_cons
        (pe_lc (own := [("row", 3)]) (g := gName 3) (tt := tYes) (te := tMeth C "_out_of_each" (spEach C) [] E0 (tVar 1) (tCons (tVar 3) tNil)) rfl scRsh.nd (pi_tup (pe_fld (pv 2) rfl)) (blkOk_by (own := [("row", 3)]) (N := ["self", "other", "leading", "row"]) (sc := defScope sRsh) (by decide +kernel))
          (fun _ _ _ _ _ => pg_name (i := 3) scRsh.nd rfl (Or.inl rfl)) (fun _ _ _ _ _ => pts_nil) (fun _ _ _ _ _ => pe_meth (pv 1) S.T.cl mG (ok_each G S) hr1 bG .nil pass0 (pa_cons (pv 3) pa_nil))) pa_nil))))), ?_⟩
    refine ⟨_, rfl, _, rfl, p, q, R, W, rfl, hT, hT2, eRW, ?_⟩
    obtain ⟨dxp, trp, tpp, tsp, qsp, e1, _⟩ := id hT
    refine ⟨_, rfl, p, dxp, _, rfl, e1, p, R, rfl, hT, fun Hx px sx px0 hTx => ?_⟩
    have hTq := hT2.same sx
    obtain ⟨Rx, hRx⟩ : ∃ Rx, Rx = inv R := ⟨_, rfl⟩
    rw [← hRx] at hTx
    have lRx : Rx.length = R.length := by rw [hRx, inv_len]
    obtain ⟨dx, tr, tp, ts, qs, h1, h2, h3, h4, h5, h6, h7, h8, h9⟩ := id hTx
    obtain ⟨dxq, trq, tpq, tsq, qsq, g1, _⟩ := id hTq
    refine ⟨_, rfl, px, C, dx, _, _, rfl, h1, S.T.cl, S.T.nR, tf_rows _ _ _, tr, rfl, ⟨_, SqT.of h3⟩, fun D hD => ?_⟩
    refine lc_tup (K := K) (a := tr) (xs := ts) (fun i H' => Same Hx H' ∧ ∃ ks, H' D = some (.lst ks) ∧ RowsL H' ks ((rsh R W).take i) ∧ ∀ v ∈ ks, v ≠ .ref D) ⟨Same.new hD, [], upd_same, .nil, fun _ h => by cases h⟩ (fun i H' _ ⟨s, _⟩ => SqT.of (s _ _ h3)) ?_ ?_
    · rintro i y H2 hi ⟨s2, ks, hk, hKs, nD⟩
      obtain ⟨r, hr0, t, rfl, ht⟩ := L2.Paired.at (RowsT.same s2 h4) hi
      have hi' : i < Rx.length := (List.getElem?_eq_some_iff.mp hr0).1
      refine ⟨rfl, yesT (iteT ?_)⟩
      refine ⟨_, rfl, q, dxq, _, rfl, s2 _ _ g1, tf_each' _ _ _, _, rfl, q, t, W, r, rfl, hTq.same s2, ht, by have := h9 r (List.mem_of_getElem? hr0); exact this, (fun x hx => by
        have hc := (inv_can R).2 r (by rw [← hRx]; exact List.mem_of_getElem? hr0)
        have := hc.mem hx
        omega), fun H3 d s3 d0 hd => ?_⟩
      have nDd : d ≠ D := (ne_of_none hk d0).symm
      obtain ⟨z1, z2⟩ := RowsL.snoc (o := .lst (ks ++ [.ref d])) (RowsL.same s3 hKs) nD hd nDd
      refine ⟨ks, s3 _ _ hk, ?_, Same.updN (s2.trans s3) hD, ks ++ [.ref d], upd_same, ?_, z2⟩
      · rw [Paired.length hKs]
        refine Nat.lt_of_le_of_lt (Nat.le_trans (List.length_take_le' _ _) (?_ : _ ≤ 6)) (by decide)
        rw [rsh_len]
        omega
      · have e : (rsh R W)[i]? = some (outEach W r) := by
          rw [at_row (by rw [rsh_len]; omega), rsh_row (by omega), ← hRx, row_of hr0]
        rw [take_more e]
        exact z1
    · rintro H2 ⟨s2, ks, hk, hKs, nD⟩
      have lt : ts.length = Rx.length := Paired.length h4
      have ek : (rsh R W).take ts.length = rsh R W := List.take_of_length_le (by rw [rsh_len]; omega)
      rw [ek] at hKs
      have hC := rsh_can eRW
      refine fun x dx2 hx hdx ndx => ?_
      have s6 : Same H2 (upd (upd H2 dx2 (.own x)) x (.ins C dx2 [])) := Same.upd (Same.new hdx) (by rw [upd_ne ndx.symm]; exact hx)
      refine ⟨x, dx2, D, ks, rsh R W, rfl, upd_same, by rw [upd_ne ndx]; exact upd_same, s6 _ _ hk, RowsL.same s6 hKs, by rw [rsh_len]; omega, by rw [rsh_len]; omega, by rw [rsh_len]; exact can_all hC.2 (by omega), fun H3 k3 hT3 => ⟨rfl, ?_⟩⟩
      rw [rsh_len, same_rows hC.2] at hT3
      have s13 := sx.trans s2
      exact k H3 x (fun q o e => k3 q o (ne_of_none (s13 _ _ e) hx) (s6 _ _ (s13 _ _ e))) (s13.free hx) hT3
end
end Toy
namespace Toy
open PySem L2
/-- what list(x) asks -/
abbrev rLst (K : PySem.W.Frag) : List V → Hp → VK → Prop := fun xs H Q => ∃ p ys, xs = [.ref p] ∧ (SqL K H p ys ∨ SqT K H p ys) ∧ ∀ l, H l = none → Q (.ref l) (upd H l (.lst ys))
/-- the loop of [list(row) for row in rows] -/
theorem copies {K : PySem.W.Frag} {σ : St} {H1 : Hp} {D l : Addr} {i : Nat} {ls : List V} {R : List (List Int)} {Qd : Hp → Prop} (hσ : i < σ.length) (hD : H1 D = none) (hl : H1 l = some (.lst ls)) (hR : RowsL H1 ls R) (h6 : R.length ≤ 6)
    (hd : ∀ H' ks, Same H1 H' → H' D = some (.lst ks) → RowsL H' ks R → Qd H') :
    ∃ W : Nat → Nat → Hp → Prop, (∃ m, W 0 m (upd H1 D (.lst []))) ∧ ∀ j m H, W j m H →
      ((Itl K l).stop j H ∧ Qd H) ∨ ((Itl K l).go j H ∧ ∃ Nx : Hp → Prop, (∀ H', Nx H' → ∃ m', m' < m ∧ W (j + 1) m' H') ∧ ∀ x H', (Itl K l).yld j H x H' → gName i x (wipe σ [i]) H' fun σ2 H2 => wipe σ2 [i] = wipe σ [i] ∧ tYes σ2 H2 fun b H3 =>
        if b = true then tCB (rLst K) (tCons (tVar i) tNil) σ2 H3 fun y H4 => ∃ acc, H4 D = some (.lst acc) ∧ acc.length < sizeLine ∧ Nx (upd H4 D (.lst (acc ++ [y]))) else Nx H3) := by
  have eL : ls.length = R.length := Paired.length hR
  refine lc_list (K := K) (a := l) (xs := ls) (fun i H' => Same H1 H' ∧ ∃ ks, H' D = some (.lst ks) ∧ RowsL H' ks (R.take i) ∧ ∀ v ∈ ks, v ≠ .ref D) ⟨Same.new hD, [], upd_same, .nil, fun _ h => by cases h⟩ (fun i H' _ ⟨s, _⟩ => SqL.of (s _ _ hl)) ?_ ?_
  · rintro j y H5 hi ⟨s5, ks, hk, hKs, nD2⟩
    obtain ⟨g, hg, t, rfl, ht⟩ := L2.Paired.at (RowsL.same s5 hR) hi
    refine ⟨?_, yesT (iteT ?_)⟩
    · show ((σ.set i none).set i (some (V.ref t))).set i none = σ.set i none
      rw [List.set_set, List.set_set]
    have e : ((σ.set i none).set i (some (V.ref t)))[i]? = some (some (V.ref t)) := by
      rw [List.getElem?_set_self (by rw [List.length_set]; exact hσ)]
    refine ⟨_, e, t, _, rfl, .inl (SqL.of ht), fun u hu => ?_⟩
    have nDu : u ≠ D := (ne_of_none hk hu).symm
    have s6 := Same.new (H := H5) (o := .lst (vI g)) hu
    obtain ⟨z1, z2⟩ := RowsL.snoc (o := .lst (ks ++ [.ref u])) (RowsL.same s6 hKs) nD2 upd_same nDu
    refine ⟨ks, s6 _ _ hk, ?_, Same.updN (s5.trans s6) hD, ks ++ [.ref u], upd_same, ?_, z2⟩
    · rw [Paired.length hKs]
      exact Nat.lt_of_le_of_lt (Nat.le_trans (List.length_take_le' _ _) h6) (by decide)
    · rw [take_more hg]
      exact z1
  · rintro H5 ⟨s5, ks, hk, hKs, nD2⟩
    rw [eL, List.take_length] at hKs
    exact hd H5 ks s5 hk hKs
/-- Table(rows), the rows canonical -/
theorem init_of {K : PySem.W.Frag} {C D : Addr} {H5 : Hp} {ks : List V} {R : List (List Int)} {n : Nat} {E : XK} {Z : Addr → Hp → Prop} (hk : H5 D = some (.lst ks)) (hKs : RowsL H5 ks R) (c : CanR n R) (n1 : 1 ≤ n) (n6 : n ≤ 6)
    (hz : ∀ H6 x, Same H5 H6 → H5 x = none → Tab C H6 x R → Z x H6) : ∀ x dx, H5 x = none → H5 dx = none → dx ≠ x → spInit K C (.ref x :: ([.ref D] ++ [])) (upd (upd H5 dx (.own x)) x (.ins C dx [])) (fun v H2 => v = .non ∧ Z x H2) E := by
  intro x dx hx hdx ndx
  have s6 : Same H5 (upd (upd H5 dx (.own x)) x (.ins C dx [])) := Same.upd (Same.new hdx) (by rw [upd_ne ndx.symm]; exact hx)
  have cl := c.1
  refine ⟨x, dx, D, ks, R, rfl, upd_same, by rw [upd_ne ndx]; exact upd_same, s6 _ _ hk, RowsL.same s6 hKs, by omega, by omega, by rw [cl]; exact can_all c.2 n6, fun H6 k6 hT => ⟨rfl, ?_⟩⟩
  rw [cl, same_rows c.2] at hT
  exact hz H6 x (fun q o e => k6 q o (ne_of_none e hx) (s6 _ _ e)) hx hT
end Toy
namespace L2
open PySem PySem.Spec PyProof.Rows
/-- x in t, t a tuple of data -/
def rInT (K : PySem.W.Frag) : R2 := fun x y H Q => ∃ d ds, Dp K H x d ∧ Dp K H y (.tuple ds) ∧ SeqAt.shaped d = true ∧ SeqAt.shaped (.tuple ds) = true ∧ Q (.bl (ds.any fun z => PyData.eqv z d)) H
/-- a op b (a comparison), both own instances of the class at C -/
def rCmp (C : Addr) (sp : Sp) (E : XK) : R2 := fun x y H Q => ∃ a dx fs b dy gs, x = .ref a ∧ y = .ref b ∧ H a = some (.ins C dx fs) ∧ H b = some (.ins C dy gs) ∧ sp [x, y] H Q E
section
variable {X : Cx} {CX : CXT} {k : Nat} {C f : Addr} {fd : FuncData} {ps : List Str} {sp : Sp} {E : XK}
theorem op_inT (hu : X.A.units + 65 < cLine) : OpR X (compareOp .In) (rInT X.K) := by
  intro pins s σ H x y v u Q I rx ry h
  obtain ⟨d, ds, hd, he, sd, se, q⟩ := h
  obtain ⟨as, r1⟩ := Dp.reads I d x v hd rx
  obtain ⟨bs, r2⟩ := Dp.reads I (.tuple ds) y u he ry
  have hx : PyData.canLayAll0 ds = true := SeqAt.canLay_of_shaped se
  exact SeqAt.in_tuple_reads r2 r1 hx (SeqAt.canLay_of_shaped sd) (by have := SeqAt.depth_of_shaped sd; have h2 := Nat.min_le_right (PyData.depthAll ds) d.depth; omega) ⟨.bl _, H, I, rfl, q⟩
theorem op_cmp {op : CmpOp} (hop : ∀ a b, compareOp op a b = richCompare op a b) (F : FnOk X.prog X.w X.K X.mg X.base CX k f fd ps sp) (hr : Room k X.A) (hb : Binds X.K fd ps []) (hx : Passes CX X E) (hn : PySem.W.notFirst X.K C (.ref C) = true)
    (hs : PySem.W.findIn X.K (.ref C) (cmpInfo op).2.1 = some (some (.ref f))) (hfn : PySem.W.isFn X.K (.ref f) = true) : OpR X (compareOp op) (rCmp C sp E) := by
  intro pins s σ H x y v u Q I rx ry h
  obtain ⟨a, dx, fs, b, dy, gs, rfl, rfl, ha, hb', q⟩ := h
  cases (show v = Value.ref a from rx)
  cases (show u = Value.ref b from ry)
  obtain ⟨mA, O, _⟩ := ins_get I.hok ha
  obtain ⟨od, J, _⟩ := O.look
  obtain ⟨mB, O', _⟩ := ins_get I.hok hb'
  obtain ⟨od', J', _⟩ := O'.look
  obtain ⟨m, hF⟩ := I.fr
  rw [hop]
  refine PySem.W.cmp_K (op := op) (tb := .ref C) hr.units0 hF I.ok.mod.kin J J'.type hn hs hfn ?_
  refine wpAny_mono (run_fn (us := [.ref a, .ref b]) (vs := [.ref a, .ref b]) F hr hb .nil hx I (.cons rfl (.cons rfl .nil)) q) (fun w s' z => ?_) fun _ _ x => x
  obtain ⟨z', H', I', rz, qz⟩ := z
  exact SlX.cmpback rz ⟨z', H', I', rz, qz⟩
end
end L2
namespace Toy
open PySem L2
abbrev sOutSome : Stmt := inClass sTable 11
abbrev sMul : Stmt := inClass sTable 29
abbrev sLe : Stmt := inClass sTable 24
/-! ### the mathematics -/
def cat (R : List (List Int)) (ws : List Int) : List Int := ws.flatMap fun x => row R x.toNat
theorem cat_snoc (R : List (List Int)) (ws : List Int) (x : Int) : cat R (ws ++ [x]) = cat R ws ++ row R x.toNat := by
  unfold cat
  rw [List.flatMap_append]
  simp
theorem row_len {R : List (List Int)} (h : ∀ r ∈ R, r.length ≤ 6) (j : Nat) : (row R j).length ≤ 6 := by
  unfold row
  rw [List.getD_eq_getElem?_getD]
  cases e : R[j]? with
  | none => simp
  | some y => simpa using h y (List.mem_of_getElem? e)
theorem cat_len {R : List (List Int)} (h : ∀ r ∈ R, r.length ≤ 6) : ∀ ws : List Int, (cat R ws).length ≤ 6 * ws.length
  | [] => by simp [cat]
  | x :: r => by
    have ih := cat_len h r
    show (row R x.toNat ++ cat R r).length ≤ _
    rw [List.length_append, List.length_cons]
    have := row_len h x.toNat
    omega
theorem cat_mem {R : List (List Int)} {ws : List Int} {y : Int} : y ∈ cat R ws ↔ ∃ x ∈ ws, y ∈ row R x.toNat := by
  unfold cat
  rw [List.mem_flatMap]
def mul (F X : List (List Int)) : List (List Int) := F.map fun r => asc (cat X r) X.length
theorem mul_len (F X : List (List Int)) : (mul F X).length = F.length := by unfold mul; rw [List.length_map]
theorem asc_can {n : Nat} (ws : List Int) : Can n (asc ws n) := filt_can _
theorem asc_iff {n : Nat} {ws : List Int} {j : Nat} : (j : Int) ∈ asc ws n ↔ (j < n ∧ (j : Int) ∈ ws) := by
  have h := filt_mem (n := n) (p := fun i => decide ((i : Int) ∈ ws)) (j := j)
  rw [decide_eq_true_iff] at h
  exact h
theorem mul_can {F X : List (List Int)} (h : F.length = X.length) : CanR F.length (mul F X) := by
  refine ⟨mul_len F X, fun r hr => ?_⟩
  unfold mul at hr
  obtain ⟨w, _, rfl⟩ := List.mem_map.mp hr
  rw [h]
  exact asc_can _
theorem mul_row {F X : List (List Int)} {j : Nat} (h : j < F.length) : row (mul F X) j = asc (cat X (row F j)) X.length := map_row h
theorem prs_mem : ∀ {k : Nat} {R : List (List Int)} {p : Int × Int}, p ∈ prs k R ↔ ∃ j : Nat, j < R.length ∧ p.1 = ((k + j : Nat) : Int) ∧ p.2 ∈ row R j
  | k, [], p => by simp [prs]
  | k, r :: R, p => by
    rw [show prs k (r :: R) = r.map (fun x => ((k : Int), x)) ++ prs (k + 1) R from rfl, List.mem_append, prs_mem (k := k + 1)]
    constructor
    · rintro (h | ⟨j, h1, h2, h3⟩)
      · obtain ⟨x, hx, rfl⟩ := List.mem_map.mp h
        exact ⟨0, by simp, by simp, by rw [row_of (r := r) rfl]; exact hx⟩
      · refine ⟨j + 1, by simp; omega, by rw [h2]; congr 1; omega, ?_⟩
        have e : row (r :: R) (j + 1) = row R j := by unfold row; simp
        rw [e]
        exact h3
    · rintro ⟨j, h1, h2, h3⟩
      cases j with
      | zero =>
        left
        rw [row_of (r := r) rfl] at h3
        exact List.mem_map.mpr ⟨p.2, h3, by rw [Nat.add_zero] at h2; rw [← h2]⟩
      | succ j =>
        right
        have e : row (r :: R) (j + 1) = row R j := by unfold row; simp
        rw [e] at h3
        exact ⟨j, by simp at h1; omega, by rw [h2]; congr 1; omega, h3⟩
def le (R W : List (List Int)) : Bool := (prs 0 R).all fun p => decide (p ∈ prs 0 W)
theorem le_iff {n : Nat} {R W : List (List Int)} (hR : R.length = n) (hW : W.length = n) : le R W = true ↔ ∀ j, j < n → ∀ x ∈ row R j, x ∈ row W j := by
  unfold le
  rw [List.all_eq_true]
  constructor
  · intro h j hj x hx
    have q := of_decide_eq_true (h ((j : Int), x) (prs_mem.mpr ⟨j, by omega, by simp, hx⟩))
    obtain ⟨i, hi, e, hx'⟩ := prs_mem.mp q
    have : i = j := by
      have : ((j : Nat) : Int) = ((0 + i : Nat) : Int) := e
      omega
    subst this
    exact hx'
  · intro h p hp
    obtain ⟨j, hj, e, hx⟩ := prs_mem.mp hp
    exact decide_eq_true (prs_mem.mpr ⟨j, by omega, e, h j (by omega) _ hx⟩)
/-- the three questions are one -/
theorem le_rsh {n : Nat} {F X W : List (List Int)} (cF : CanR n F) (cX : CanR n X) (cW : CanR n W) : le X (rsh F W) = le (mul F X) W := by
  have lF := cF.1
  have lX := cX.1
  have lW := cW.1
  rw [Bool.eq_iff_iff, le_iff lX (by rw [rsh_len]; exact lF), le_iff (by rw [mul_len]; exact lF) lW]
  constructor
  · intro h j hj x hx
    rw [mul_row (by omega)] at hx
    obtain ⟨hx0, x0, x1⟩ := asc_mem hx
    obtain ⟨y, hy, hxy⟩ := cat_mem.mp hx0
    obtain ⟨y0, y1⟩ := (cF.row hj).mem hy
    obtain ⟨m, rfl⟩ := Int.eq_ofNat_of_zero_le y0
    have q := h m (by omega) x hxy
    rw [rsh_row (by omega)] at q
    obtain ⟨o, rfl⟩ := Int.eq_ofNat_of_zero_le x0
    have q2 := (filt_mem.mp q).2
    rw [List.all_eq_true] at q2
    have q3 := q2 (j : Int) (by rw [inv_row (by omega)]; exact filt_mem.mpr ⟨by omega, decide_eq_true hy⟩)
    exact of_decide_eq_true q3
  · intro h m hm x hx
    rw [rsh_row (by omega)]
    obtain ⟨x0, x1⟩ := (cX.row hm).mem hx
    obtain ⟨o, rfl⟩ := Int.eq_ofNat_of_zero_le x0
    refine filt_mem.mpr ⟨by omega, List.all_eq_true.mpr fun t ht => ?_⟩
    rw [inv_row (by omega)] at ht
    obtain ⟨j, rfl, hj, pj⟩ := filt_bnd ht
    refine decide_eq_true (h j (by omega) _ ?_)
    rw [mul_row (by omega)]
    exact asc_iff.mpr ⟨by omega, cat_mem.mpr ⟨(m : Int), of_decide_eq_true pj, hx⟩⟩
theorem le_lsh {n : Nat} {F X W : List (List Int)} (cF : CanR n F) (cX : CanR n X) (cW : CanR n W) : le F (lsh W X) = le (mul F X) W := by
  have lF := cF.1
  have lX := cX.1
  have lW := cW.1
  rw [Bool.eq_iff_iff, le_iff lF (by rw [lsh_len]; exact lW), le_iff (by rw [mul_len]; exact lF) lW]
  constructor
  · intro h j hj x hx
    rw [mul_row (by omega)] at hx
    obtain ⟨hx0, x0, x1⟩ := asc_mem hx
    obtain ⟨y, hy, hxy⟩ := cat_mem.mp hx0
    have q := h j hj y hy
    rw [lsh_row (by omega)] at q
    obtain ⟨m, rfl, hm, pm⟩ := filt_bnd q
    rw [List.all_eq_true] at pm
    exact of_decide_eq_true (pm x hxy)
  · intro h j hj y hy
    obtain ⟨y0, y1⟩ := (cF.row hj).mem hy
    obtain ⟨m, rfl⟩ := Int.eq_ofNat_of_zero_le y0
    rw [lsh_row (by omega)]
    refine filt_mem.mpr ⟨by omega, List.all_eq_true.mpr fun o ho => ?_⟩
    obtain ⟨o0, o1⟩ := (cX.row (by omega : m < n)).mem ho
    obtain ⟨z, rfl⟩ := Int.eq_ofNat_of_zero_le o0
    refine decide_eq_true (h j hj _ ?_)
    rw [mul_row (by omega)]
    exact asc_iff.mpr ⟨by omega, cat_mem.mpr ⟨(m : Int), hy, ho⟩⟩
theorem le_refl {n : Nat} {R : List (List Int)} (h : R.length = n) : le R R = true := (le_iff h h).mpr fun _ _ _ hx => hx
end Toy
namespace Toy
open PySem L2
abbrev sPairsL : Stmt := top 23
abbrev sJoin : Stmt := top 22
abbrev sIs : Stmt := top 24
theorem isW_iff {n : Nat} {x : Int} : isW n x = true ↔ 0 ≤ x ∧ x < (n : Int) := by
  unfold isW
  rw [Bool.and_eq_true, decide_eq_true_iff, decide_eq_true_iff]
def spOutT (C : Addr) : Sp := fun vs H Q _ => ∃ (p l : Addr) (R : List (List Int)) (ws : List Int), vs = [.ref p, .ref l] ∧ Tab C H p R ∧ H l = some (.tup (vI ws)) ∧ (∀ x ∈ ws, isW R.length x = true) ∧ ws.length ≤ 1000 ∧
  ∀ H' d, Same H H' → H d = none → H' d = some (.lst (vI (asc (cat R ws) R.length))) → Q (.ref d) H'
def spPairsL : Sp := fun vs H Q _ => ∃ (l : Addr) (ls : List V) (R : List (List Int)), vs = [.ref l] ∧ H l = some (.lst ls) ∧ RowsL H ls R ∧ R.length ≤ 6 ∧ (∀ r ∈ R, r.length ≤ 6) ∧ ∀ H' d ds, Same H H' → H d = none → H' d = some (.lst ds) → PairsT H' ds (prs 0 R) → Q (.ref d) H'
theorem eqP (a b : Int × Int) : PyData.eqv (.tuple [.int a.1, .int a.2]) (.tuple [.int b.1, .int b.2]) = decide (a = b) := by
  obtain ⟨x, y⟩ := a
  obtain ⟨z, u⟩ := b
  simp [PyData.eqv, PyData.eqvAll]
  rfl
theorem dpP {K : PySem.W.Frag} {H : Hp} {t : Addr} {p : Int × Int} (h : H t = some (.tup (vP p))) : Dp K H (.ref t) (.tuple [.int p.1, .int p.2]) := .tup (SqT.of h) (.cons (.int _) (.cons (.int _) .nil))
theorem shP (a : Int × Int) : SeqAt.shaped (.tuple [.int a.1, .int a.2]) = true := by
  simp [SeqAt.shaped, PyData.canLay0, PyData.canLayAll0, PyData.depth, PyData.depthAll]
def dPs (P : List (Int × Int)) : List PyData := P.map fun p => .tuple [.int p.1, .int p.2]
theorem dpAllP {K : PySem.W.Frag} {H : Hp} : ∀ {qs : List V} {P : List (Int × Int)}, PairsT H qs P → DpAll K H qs (dPs P)
  | _, _, .nil => .nil
  | _, _, .cons ⟨t, e, q⟩ r => .cons (by rw [e]; exact dpP q) (dpAllP r)
theorem lay_dPs : ∀ P : List (Int × Int), PyData.canLayAll0 (dPs P) = true
  | [] => rfl
  | p :: P => by
    show (PyData.canLay0 (.tuple [.int p.1, .int p.2]) && PyData.canLayAll0 (dPs P)) = true
    rw [lay_dPs P]
    rfl
theorem dep_dPs : ∀ P : List (Int × Int), PyData.depthAll (dPs P) ≤ 1
  | [] => by decide
  | p :: P => by
    have ih := dep_dPs P
    show max (PyData.depthAll [.int p.1, .int p.2] + 1) (PyData.depthAll (dPs P)) ≤ 1
    have : PyData.depthAll [PyData.int p.1, PyData.int p.2] = 0 := by simp [PyData.depthAll, PyData.depth]
    rw [this]
    omega
theorem shPs (P : List (Int × Int)) : SeqAt.shaped (.tuple (dPs P)) = true ∧ SeqAt.shaped (.list (dPs P)) = true := by
  have := dep_dPs P
  constructor
  · show (PyData.canLayAll0 (dPs P) && decide (PyData.depthAll (dPs P) + 1 ≤ 64)) = true
    rw [lay_dPs, decide_eq_true (by omega)]
    rfl
  · show (PyData.canLayAll0 (dPs P) && decide (PyData.depthAll (dPs P) + 1 ≤ 64)) = true
    rw [lay_dPs, decide_eq_true (by omega)]
    rfl
theorem any_dPs (p : Int × Int) : ∀ P : List (Int × Int), ((dPs P).any fun z => PyData.eqv z (.tuple [.int p.1, .int p.2])) = decide (p ∈ P)
  | [] => by simp [dPs]
  | q :: P => by
    have ih := any_dPs p P
    show (PyData.eqv (.tuple [.int q.1, .int q.2]) (.tuple [.int p.1, .int p.2]) || (dPs P).any fun z => PyData.eqv z (.tuple [.int p.1, .int p.2])) = _
    rw [ih, eqP]
    by_cases h : q = p
    · subst h
      simp
    · have h' : ¬ p = q := fun z => h z.symm
      simp [h, h']
theorem units65 {A : Around} {k : Nat} (hr : Room k A) : A.units + 65 < cLine := by have := hr.un; omega
def spLe (C : Addr) : Sp := fun vs H Q _ => ∃ (p q : Addr) (R W : List (List Int)), vs = [.ref p, .ref q] ∧ Tab C H p R ∧ Tab C H q W ∧ R.length = W.length ∧ ∀ H', Same H H' → Q (.bl (le R W)) H'
def spIs : Sp := fun vs H Q _ => ∃ x : Bool, vs = [.bl x, .bl x] ∧ Q (.bl true) H
def spJoin : Sp := fun vs H Q _ => ∃ (l1 l2 : Addr) (ls1 ls2 : List V) (n : Nat) (A X : List (List Int)), vs = [.ref l1, .ref l2] ∧ H l1 = some (.lst ls1) ∧ RowsL H ls1 A ∧ H l2 = some (.lst ls2) ∧ RowsL H ls2 X ∧ CanR n A ∧ CanR n X ∧ n ≤ 6 ∧
  ∀ H' d ks, Same H H' → H d = none → H' d = some (.lst ks) → RowsL H' ks (mul A X) → Q (.ref d) H'
section
variable {P : Program} {w : World} {K : PySem.W.Frag} {mg : Str → Option Value} {base : Heap}
theorem scOut : FnScope ["self", "words", "word", "out"] ["self", "words"] (defScope sOutSome) := ⟨rfl, rfl, rfl, by decide +kernel, rfl, by decide +kernel, by decide +kernel⟩
theorem ok_outT {f C : Addr} {fd : FuncData} (F : Fun K "_out_of_some" "Table._out_of_some" sOutSome f fd) (S : Gs K mg C) : FnOk P w K mg base CX0 2 f fd ["self", "words"] (spOutT C) := by
  obtain ⟨fS, fdS, FS, mS, bS⟩ := S.asc
  refine F.ok scOut (fun vs H Q E h => ?_) (fun cdv A outer s H vs Q E hr h => ?_)
  · obtain ⟨p, l, R, ws, rfl, _⟩ := h
    rfl
  · obtain ⟨p, l, R, ws, rfl, hT, hl, hw, w1000, k⟩ := h
    obtain ⟨dx, tr, tp, ts, qs, h1, h2, h3, h4, h5, h6, h7, h8, h9⟩ := id hT
    refine ⟨_, pss_one (ps_ret (pe_call (ok_asc FS S.B) hr rfl mS FS.kp bS .nil pass0 (pa_cons
      (pe_lc2 (own := [("word", 2), ("out", 3)]) (vs1 := [3]) (tt := tYes) (tt1 := tYes) (g := gName 2) (g1 := gName 3) (wi1 := iTup K (tOp (rIxT K) (tFld K (tVar 0) "_rows") (tVar 2))) rfl scOut.nd (pi_tup (pv 1))
        (blkOk_by (own := [("word", 2), ("out", 3)]) (N := ["self", "words", "word", "out"]) (sc := defScope sOutSome) (by decide +kernel)) (by decide)
        (fun _ _ _ _ _ => pg_name (i := 2) scOut.nd rfl (Or.inl rfl)) (fun _ _ _ _ _ => pts_nil)
        (fun _ _ _ _ _ => pi_tup (pe_ix ix_tup (pe_fld (pv 0) rfl) (pv 2) (fun _ _ => rfl))) (fun _ _ _ _ _ => pg_name (i := 3) scOut.nd rfl (Or.inl rfl)) (fun _ _ _ _ _ => pts_nil)
        (fun _ _ _ _ _ => pv 3)) (pa_cons (pe_fld (pv 0) rfl) pa_nil)))), ?_⟩
    refine ⟨_, rfl, l, rfl, ⟨_, SqT.of hl⟩, fun D hD => ?_⟩
    refine lc2_out (walk_tup (K := K) (a := l) (xs := vI ws)) (fun i H' => Same H H' ∧ H' D = some (.lst (vI (cat R (ws.take i))))) ⟨Same.new hD, upd_same⟩ (fun i H' _ ⟨s, _⟩ => SqT.of (s _ _ hl)) ?_ ?_
    · rintro i x H4 H5 hi ⟨s5, hd⟩ ⟨rfl, hx⟩
      obtain ⟨y, hy, rfl⟩ := vI_at hx
      have hyw := isW_iff.mp (hw y (List.mem_of_getElem? hy))
      obtain ⟨j, rfl⟩ := Int.eq_ofNat_of_zero_le hyw.1
      have hr0 : R[j]? = some (row R ((j : Int)).toNat) := by rw [Int.toNat_natCast]; exact at_row (by omega)
      obtain ⟨v, hv, t, rfl, ht⟩ := L2.Paired.at2 (RowsT.same s5 h4) hr0
      have ht' := ht
      refine ⟨rfl, yesT (iteT ?_)⟩
      refine ⟨_, rfl, p, C, dx, _, _, rfl, s5 _ _ h1, S.T.cl, S.T.nR, tf_rows _ _ _, _, rfl, tr, ts, (j : Int), _, rfl, rfl, SqT.of (s5 _ _ h3), atI_nat hv, t, rfl, ⟨_, SqT.of ht⟩, ?_⟩
      generalize hR : row R ((j : Int)).toNat = r at hr0 ht ht'
      have r6' := h9 r (List.mem_of_getElem? hr0)
      refine lc2_in (walk_tup (K := K) (a := t) (xs := vI r)) (fun m H' => Same H H' ∧ H' t = some (.tup (vI r)) ∧ H' D = some (.lst (vI (cat R (ws.take i) ++ r.take m)))) ⟨s5, ht, by rw [List.take_zero, List.append_nil]; exact hd⟩ (fun m H' _ ⟨_, h, _⟩ => SqT.of h) ?_ ?_
      · rintro m x H6 H7 hm ⟨s7, ht7, hq7⟩ ⟨rfl, hx7⟩
        obtain ⟨z, hz, rfl⟩ := vI_at hx7
        refine ⟨rfl, yesT (iteT ?_)⟩
        refine ⟨_, rfl, _, hq7, ?_, Same.updN s7 hD, by rw [upd_ne (ne_of ht7 hq7 (fun q => nomatch q))]; exact ht7, ?_⟩
        · rw [vI_len, List.length_append]
          have h1 := cat_len h9 (ws.take i)
          have h2 : (ws.take i).length ≤ ws.length := List.length_take_le' _ _
          have h3 : (r.take m).length ≤ r.length := List.length_take_le' _ _
          exact Nat.lt_of_le_of_lt (by omega : _ ≤ 6006) (by decide)
        · rw [upd_same, take_more hz]
          unfold vI
          rw [List.map_append, List.map_append, List.map_append, List.append_assoc]
          rfl
      · rintro H6 ⟨s7, ht7, hq7⟩
        rw [vI_len, List.take_length] at hq7
        refine ⟨s7, ?_⟩
        rw [take_more hy, cat_snoc, hR]
        exact hq7
    · rintro H6 ⟨s7, hq⟩
      rw [vI_len, List.take_length] at hq
      refine ⟨_, rfl, p, C, dx, _, _, rfl, s7 _ _ h1, S.T.cl, S.T.nS, tf_size _ _ _, D, cat R ws, R.length, rfl, .inl (SqL.of hq), h8, fun H7 d s8 d0 hd => ?_⟩
      exact k H7 d (s7.trans s8) (s7.free d0) hd
theorem scPairsL : FnScope ["_law_rows_here", "_law_found", "_law_told", "_law_out"] ["_law_rows_here"] (defScope sPairsL) := ⟨rfl, rfl, rfl, by decide +kernel, rfl, by decide +kernel, by decide +kernel⟩
theorem ok_pairsL {f : Addr} {fd : FuncData} (F : Fun K "_law_pairs" "_law_pairs" sPairsL f fd) (B : Bt mg) : FnOk P w K mg base CX0 1 f fd ["_law_rows_here"] spPairsL := by
  refine F.ok scPairsL (fun vs H Q E h => ?_) (fun cdv A outer s H vs Q E hr h => ?_)
  · obtain ⟨l, ls, R, rfl, _⟩ := h
    rfl
  · obtain ⟨l, ls, R, rfl, hl, hR, r6, rr6, k⟩ := h
    refine ⟨_, pss_cons (ps_set (i := 1) scPairsL.nd rfl (Or.inl rfl) (pe_lst pa_nil))
      (pss_cons (ps_for PassesOwn.never rfl (pi_range1 (by rfl) B.range (pa_cons (pe_callB call_len_seq (by rfl) B.len PySem.boot_len (pa_cons (pv 0) pa_nil)) pa_nil)) (pg_name (i := 2) scPairsL.nd rfl (Or.inr rfl))
        (pss_one (ps_set (i := 1) scPairsL.nd rfl (Or.inl rfl) (pe_op op_cat (pv 1) (pe_lc (own := [("_law_out", 3)]) (g := gName 3) (tt := tYes) rfl scPairsL.nd (pi_list (pe_ix ix_list (pv 0) (pv 2) (fun _ _ => rfl))) (blkOk_by (own := [("_law_out", 3)]) (N := ["_law_rows_here", "_law_found", "_law_told", "_law_out"]) (sc := defScope sPairsL) (by decide +kernel))
          (fun _ _ _ _ _ => pg_name (i := 3) scPairsL.nd rfl (Or.inl rfl)) (fun _ _ _ _ _ => pts_nil) (fun _ _ _ _ _ => pe_tup (pa_cons (pv 2) (pa_cons (pv 3) pa_nil))))))))
      (pss_one (ps_ret (pv 1)))), ?_⟩
    have eL : ls.length = R.length := Paired.length hR
    refine ⟨Nat.zero_le _, fun d0 hd0 => ?_⟩
    refine ⟨_, rfl, l, _, rfl, .inl (SqL.of ((Same.new hd0) _ _ hl)), (ls.length : Int), rfl, by omega, by omega, ?_⟩
    have nP6 : ∀ i, (prs 0 (R.take i)).length ≤ 36 := fun i => by
      have h1 := prs_len 0 (R.take i) fun r hr => rr6 r (List.mem_of_mem_take hr)
      have h2 : (R.take i).length ≤ R.length := List.length_take_le' _ _
      omega
    refine for_range (lo := 0) (n := ls.length) (fun i σ H' => Same H H' ∧ ∃ v2 d ds, σ = [some (.ref l), some (.ref d), v2, none] ∧ H d = none ∧ H' d = some (.lst ds) ∧ PairsT H' ds (prs 0 (R.take i)))
      ⟨Same.new hd0, none, d0, [], rfl, hd0, upd_same, .nil⟩ ?_ ?_
    · rintro i σ H1 hi ⟨s1, v2, d, ds, rfl, hd, hd1, hP1⟩
      obtain ⟨r, hr0⟩ : ∃ r, R[i]? = some r := ⟨_, List.getElem?_eq_getElem (by omega)⟩
      have hl1 := s1 _ _ hl
      obtain ⟨u2, g2, t, rfl, q2⟩ := L2.Paired.at2 (RowsL.same s1 hR) hr0
      have r6' := rr6 r (List.mem_of_getElem? hr0)
      refine ⟨_, rfl, _, rfl, _, rfl, l, _, _, _, rfl, rfl, SqL.of hl1, at_of (j := i) (by omega) g2, t, rfl, ⟨_, SqL.of q2⟩, fun D hD => ?_⟩
      have nDd : d ≠ D := ne_of_none hd1 hD
      refine lc_list (K := K) (a := t) (xs := vI r) (fun j H' => Same H1 H' ∧ ∃ es, H' D = some (.lst es) ∧ PairsT H' es ((r.take j).map fun x => ((i : Int), x))) ⟨Same.new hD, [], upd_same, .nil⟩ (fun j H' _ ⟨s, _⟩ => SqL.of (s _ _ q2)) ?_ ?_
      · rintro j y H2 hj ⟨s2, es, he, hE⟩
        obtain ⟨x, hx, rfl⟩ := vI_at hj
        refine ⟨rfl, yesT (iteT ?_)⟩
        refine ⟨_, rfl, _, rfl, (by show 2 ≤ sizeLine; decide), fun u hu => ?_⟩
        have nDu : D ≠ u := ne_of_none he hu
        have s3 := Same.new (H := H2) (o := .tup [.int (0 + (i : Int)), .int x]) hu
        refine ⟨es, s3 _ _ he, ?_, Same.updN (s2.trans s3) hD, es ++ [.ref u], upd_same, ?_⟩
        · rw [Paired.length hE, List.length_map]
          have h2 : (r.take j).length ≤ r.length := List.length_take_le' _ _
          exact Nat.lt_of_le_of_lt (by omega : _ ≤ 6) (by decide)
        · rw [take_more hx, List.map_append]
          refine L2.Paired.snoc ⟨u, rfl, by rw [upd_ne nDu.symm, upd_same]; show some (HO.tup [V.int (0 + (i : Int)), V.int x]) = some (HO.tup [V.int (i : Int), V.int x]); rw [Int.zero_add]⟩ ?_
          exact PairsT.updL (PairsT.same s3 hE) (s3 _ _ he)
      · rintro H2 ⟨s2, es, he, hE⟩
        rw [vI_len, List.take_length] at hE
        have hd2 := s2 _ _ hd1
        have l1 : ds.length ≤ 36 := by rw [Paired.length hP1]; exact nP6 i
        have l2 : es.length ≤ 6 := by rw [Paired.length hE, List.length_map]; exact r6'
        refine ⟨d, D, ds, es, rfl, rfl, hd2, he, Nat.le_trans (by omega : _ ≤ 42) (by decide), fun p hp => ?_⟩
        refine ⟨(s1.trans s2).trans (Same.new hp), _, p, ds ++ es, rfl, (s1.trans s2).free hp, upd_same, ?_⟩
        rw [take_more hr0, prs_snoc]
        have e : (R.take i).length = i := by rw [List.length_take]; omega
        rw [e, Nat.zero_add]
        exact PairsT.same (Same.new hp) (L2.Paired.app (PairsT.same s2 hP1) hE)
    · rintro σ H1 ⟨s1, v2, d, ds, rfl, hd, hd1, hP1⟩
      rw [eL, List.take_length] at hP1
      exact ⟨_, rfl, k H1 d ds s1 hd hd1 hP1⟩
theorem scLe : FnScope ["self", "other", "pair"] ["self", "other"] (defScope sLe) := ⟨rfl, rfl, rfl, by decide +kernel, rfl, by decide +kernel, by decide +kernel⟩
theorem ok_le {f c C : Addr} {fd fdc : FuncData} (F : Fun K "__le__" "Table.__le__" sLe f fd) (S : Gs K mg C) (Z : Fun K "check_same_size" "check_same_size" sChSame c fdc) (mZ : mg "check_same_size" = some (.ref c)) (bZ : Binds K fdc ["first", "second"] []) :
    FnOk P w K mg base CX0 2 f fd ["self", "other"] (spLe C) := by
  have B := S.B
  refine F.ok scLe (fun vs H Q E h => ?_) (fun cdv A outer s H vs Q E hr h => ?_)
  · obtain ⟨p, q, R, W, rfl, _⟩ := h
    rfl
  · obtain ⟨p, q, R, W, rfl, hT, hT2, eRW, k⟩ := h
    obtain ⟨dx, tr, tp, ts, qs, h1, h2, h3, h4, h5, h6, h7, h8, h9⟩ := id hT
    obtain ⟨dx', tr', tp', ts', qs', g1, g2, g3, g4, g5, g6, g7, g8, g9⟩ := id hT2
    refine ⟨_, pss_cons (ps_expr (pe_call (ok_chSame Z S.T) hr rfl mZ Z.kp bZ .nil pass0 (pa_cons (pv 0) (pa_cons (pv 1) pa_nil))))
      (pss_one (ps_ret (pe_callB (cr_all rfl) (by rfl) B.all (by decide +kernel) (pa_cons (pe_lc (own := [("pair", 2)]) (g := gName 2) (tt := tYes) (te := tOp (rInT K) (tVar 2) (tFld K (tVar 1) "_pairs")) rfl scLe.nd (pi_tup (pe_fld (pv 0) rfl)) (blkOk_by (own := [("pair", 2)]) (N := ["self", "other", "pair"]) (sc := defScope sLe) (by decide +kernel))
        (fun _ _ _ _ _ => pg_name (i := 2) scLe.nd rfl (Or.inl rfl)) (fun _ _ _ _ _ => pts_nil) (fun _ _ _ _ _ => pe_cmpR (op_inT (units65 hr)) (pv 2) (pe_fld (pv 1) rfl) (by rfl))) pa_nil)))), ?_⟩
    refine ⟨_, rfl, _, rfl, p, q, R, W, rfl, hT, hT2, eRW, ?_⟩
    refine ⟨_, rfl, p, C, dx, _, _, rfl, h1, S.T.cl, S.T.nP, tf_pairs _ _ _, tp, rfl, ⟨_, SqT.of h5⟩, fun D hD => ?_⟩
    have l36 : (prs 0 R).length ≤ 36 := by have := prs_len 0 R h9; omega
    refine lc_tup (K := K) (a := tp) (xs := qs) (fun i H' => Same H H' ∧ H' D = some (.lst (((prs 0 R).take i).map fun p => V.bl (decide (p ∈ prs 0 W))))) ⟨Same.new hD, upd_same⟩ (fun i H' _ ⟨s, _⟩ => SqT.of (s _ _ h5)) ?_ ?_
    · rintro i y H1 hi ⟨s1, hd⟩
      obtain ⟨x, hx, t, rfl, ht⟩ := L2.Paired.at (PairsT.same s1 h6) hi
      refine ⟨rfl, yesT (iteT ?_)⟩
      refine ⟨_, rfl, _, rfl, q, C, dx', _, _, rfl, s1 _ _ g1, S.T.cl, S.T.nP, tf_pairs _ _ _, _, _, dpP ht, .tup (SqT.of (s1 _ _ g5)) (dpAllP (PairsT.same s1 g6)), shP x, (shPs _).1, ?_⟩
      refine ⟨_, hd, ?_, Same.updN s1 hD, ?_⟩
      · rw [List.length_map]
        exact Nat.lt_of_le_of_lt (Nat.le_trans (List.length_take_le' _ _) l36) (by decide)
      · rw [upd_same, take_more hx, List.map_append, any_dPs]
        rfl
    · rintro H1 ⟨s1, hd⟩
      rw [Paired.length h6, List.take_length] at hd
      refine ⟨D, (prs 0 R).map (fun p => decide (p ∈ prs 0 W)), rfl, SqL.of (by rw [hd, List.map_map]; rfl), ?_⟩
      have ea : ((prs 0 R).map (fun p => decide (p ∈ prs 0 W))).all id = le R W := by rw [List.all_map]; rfl
      rw [ea]
      exact k H1 s1
theorem scIs : FnScope ["_law_value", "_law_due"] ["_law_value", "_law_due"] (defScope sIs) := ⟨rfl, rfl, rfl, by decide +kernel, rfl, by decide +kernel, by decide +kernel⟩
theorem ok_is {f : Addr} {fd : FuncData} (F : Fun K "_law_is" "_law_is" sIs f fd) : FnOk P w K mg base CX0 1 f fd ["_law_value", "_law_due"] spIs := by
  refine F.ok scIs (fun vs H Q E h => ?_) (fun cdv A outer s H vs Q E hr h => ?_)
  · obtain ⟨x, rfl, _⟩ := h
    rfl
  · obtain ⟨x, rfl, k⟩ := h
    refine ⟨_, pss_cons (ps_if (pt_val (pv 1)) (pss_one (ps_ret (pe_cmpR op_isBl (pv 0) pe_bl (nomark _)))) pss_nil) (pss_one (ps_ret (pe_cmpR op_isBl (pv 0) pe_bl (nomark _)))), ?_⟩
    cases x with
    | true => exact ⟨_, rfl, _, rfl, iteT ⟨_, rfl, _, _, rfl, rfl, k⟩⟩
    | false => exact ⟨_, rfl, _, rfl, iteF ⟨_, rfl, _, _, rfl, rfl, k⟩⟩
end
end Toy
namespace Toy
open PySem L2
theorem tf_out' (n : Nat) (tr tp : Addr) : (tf n tr tp).lookup ("_out_of_some" : Str) = none := tf_no _ _ _ (by decide +kernel) (by decide +kernel) (by decide +kernel)
def spMul (C : Addr) : Sp := fun vs H Q _ => ∃ (p q : Addr) (R W : List (List Int)), vs = [.ref p, .ref q] ∧ Tab C H p R ∧ Tab C H q W ∧ R.length = W.length ∧ (∀ r ∈ R, Can R.length r) ∧ ∀ H' x, Same H H' → H x = none → Tab C H' x (mul R W) → Q (.ref x) H'
section
variable {P : Program} {w : World} {K : PySem.W.Frag} {mg : Str → Option Value} {base : Heap}
theorem scMul : FnScope ["self", "other", "row"] ["self", "other"] (defScope sMul) := ⟨rfl, rfl, rfl, by decide +kernel, rfl, by decide +kernel, by decide +kernel⟩
theorem ok_mul {f n g c C : Addr} {fd fdn fdg fdc : FuncData} (F : Fun K "__mul__" "Table.__mul__" sMul f fd) (S : Gs K mg C) (N : Fun K "__init__" "Table.__init__" sInit n fdn) (M : Mk K C n) (bN : Binds K fdn ["self", "rows"] [])
    (G : Fun K "_out_of_some" "Table._out_of_some" sOutSome g fdg) (mG : Meth K C "_out_of_some" g) (bG : Binds K fdg ["self", "words"] []) (Z : Fun K "check_same_size" "check_same_size" sChSame c fdc) (mZ : mg "check_same_size" = some (.ref c)) (bZ : Binds K fdc ["first", "second"] []) :
    FnOk P w K mg base CX0 5 f fd ["self", "other"] (spMul C) := by
  have B := S.B
  refine F.ok scMul (fun vs H Q E h => ?_) (fun cdv A outer s H vs Q E hr h => ?_)
  · obtain ⟨p, q, R, W, rfl, _⟩ := h
    rfl
  · obtain ⟨p, q, R, W, rfl, hT, hT2, eRW, cR, k⟩ := h
    have hr1 : Room 1 _ := hr.mono (by decide)
    have hr4 : Room 4 _ := hr.mono (by decide)
    have hr2 : Room 2 _ := hr.mono (by decide)
    refine ⟨_, pss_cons (ps_expr (pe_call (ok_chSame Z S.T) hr1 rfl mZ Z.kp bZ .nil pass0 (pa_cons (pv 0) (pa_cons (pv 1) pa_nil))))
      (pss_one (ps_ret (pe_make M (ok_init N S) hr4 rfl S.T.mgC bN .nil pass0 (pa_cons
        (pe_lc (own := [("row", 2)]) (g := gName 2) (tt := tYes) (te := tMeth C "_out_of_some" (spOutT C) [] E0 (tVar 1) (tCons (tVar 2) tNil)) rfl scMul.nd (pi_tup (pe_fld (pv 0) rfl)) (blkOk_by (own := [("row", 2)]) (N := ["self", "other", "row"]) (sc := defScope sMul) (by decide +kernel))
          (fun _ _ _ _ _ => pg_name (i := 2) scMul.nd rfl (Or.inl rfl)) (fun _ _ _ _ _ => pts_nil) (fun _ _ _ _ _ => pe_meth (pv 1) S.T.cl mG (ok_outT G S) hr2 bG .nil pass0 (pa_cons (pv 2) pa_nil))) pa_nil)))), ?_⟩
    refine ⟨_, rfl, _, rfl, p, q, R, W, rfl, hT, hT2, eRW, ?_⟩
    obtain ⟨dx, tr, tp, ts, qs, h1, h2, h3, h4, h5, h6, h7, h8, h9⟩ := id hT
    obtain ⟨dxq, trq, tpq, tsq, qsq, g1, _⟩ := id hT2
    refine ⟨_, rfl, p, C, dx, _, _, rfl, h1, S.T.cl, S.T.nR, tf_rows _ _ _, tr, rfl, ⟨_, SqT.of h3⟩, fun D hD => ?_⟩
    refine lc_tup (K := K) (a := tr) (xs := ts) (fun i H' => Same H H' ∧ ∃ ks, H' D = some (.lst ks) ∧ RowsL H' ks ((mul R W).take i) ∧ ∀ v ∈ ks, v ≠ .ref D) ⟨Same.new hD, [], upd_same, .nil, fun _ h => by cases h⟩ (fun i H' _ ⟨s, _⟩ => SqT.of (s _ _ h3)) ?_ ?_
    · rintro i y H2 hi ⟨s2, ks, hk, hKs, nD⟩
      obtain ⟨r, hr0, t, rfl, ht⟩ := L2.Paired.at (RowsT.same s2 h4) hi
      have hi' : i < R.length := (List.getElem?_eq_some_iff.mp hr0).1
      refine ⟨rfl, yesT (iteT ?_)⟩
      refine ⟨_, rfl, q, dxq, _, rfl, s2 _ _ g1, tf_out' _ _ _, _, rfl, q, t, W, r, rfl, hT2.same s2, ht, (fun x hx => isW_iff.mpr (by rw [← eRW]; exact (cR r (List.mem_of_getElem? hr0)).mem hx)), (by have := h9 r (List.mem_of_getElem? hr0); omega), fun H3 d s3 d0 hd => ?_⟩
      have nDd : d ≠ D := (ne_of_none hk d0).symm
      obtain ⟨z1, z2⟩ := RowsL.snoc (o := .lst (ks ++ [.ref d])) (RowsL.same s3 hKs) nD hd nDd
      refine ⟨ks, s3 _ _ hk, ?_, Same.updN (s2.trans s3) hD, ks ++ [.ref d], upd_same, ?_, z2⟩
      · rw [Paired.length hKs]
        refine Nat.lt_of_le_of_lt (Nat.le_trans (List.length_take_le' _ _) (?_ : _ ≤ 6)) (by decide)
        rw [mul_len]
        omega
      · have e : (mul R W)[i]? = some (asc (cat W r) W.length) := by
          rw [at_row (by rw [mul_len]; omega), mul_row (by omega), row_of hr0]
        rw [take_more e]
        exact z1
    · rintro H2 ⟨s2, ks, hk, hKs, nD⟩
      have lt : ts.length = R.length := Paired.length h4
      have ek : (mul R W).take ts.length = mul R W := List.take_of_length_le (by rw [mul_len]; omega)
      rw [ek] at hKs
      have hC := mul_can eRW
      refine fun x dx2 hx hdx ndx => ?_
      have s6 : Same H2 (upd (upd H2 dx2 (.own x)) x (.ins C dx2 [])) := Same.upd (Same.new hdx) (by rw [upd_ne ndx.symm]; exact hx)
      refine ⟨x, dx2, D, ks, mul R W, rfl, upd_same, by rw [upd_ne ndx]; exact upd_same, s6 _ _ hk, RowsL.same s6 hKs, by rw [mul_len]; omega, by rw [mul_len]; omega, by rw [mul_len]; exact can_all hC.2 (by omega), fun H3 k3 hT3 => ⟨rfl, ?_⟩⟩
      rw [mul_len, same_rows hC.2] at hT3
      have s13 := s2
      exact k H3 x (fun q o e => k3 q o (ne_of_none (s13 _ _ e) hx) (s6 _ _ (s13 _ _ e))) (s13.free hx) hT3
abbrev NJ : List Str := ["_law_first", "_law_last", "_law_found", "_law_row", "_law_outs", "_law_mid", "_law_out", "_law_word"]
abbrev rLen2 (K : PySem.W.Frag) : List V → Hp → VK → Prop := fun xs H Q => ∃ p ys, xs = [.ref p] ∧ (SqL K H p ys ∨ SqT K H p ys) ∧ Q (.int (ys.length : Nat)) H
theorem scJoin : FnScope NJ ["_law_first", "_law_last"] (defScope sJoin) := ⟨rfl, rfl, rfl, by decide +kernel, rfl, by decide +kernel, by decide +kernel⟩
theorem ok_join {f : Addr} {fd : FuncData} (F : Fun K "_law_join" "_law_join" sJoin f fd) (B : Bt mg) : FnOk P w K mg base CX0 1 f fd ["_law_first", "_law_last"] spJoin := by
  refine F.ok scJoin (fun vs H Q E h => ?_) (fun cdv A outer s H vs Q E hr h => ?_)
  · obtain ⟨l1, l2, ls1, ls2, n, A, X, rfl, _⟩ := h
    rfl
  · obtain ⟨l1, l2, ls1, ls2, n, R, X, rfl, q1, r1, q2, r2, cR, cX, n6, k⟩ := h
    have lR := cR.1
    have lX := cX.1
    have e1 : ls1.length = n := by rw [Paired.length r1, lR]
    have e2 : ls2.length = n := by rw [Paired.length r2, lX]
    have x6 : ∀ r ∈ X, r.length ≤ 6 := fun r hr => Nat.le_trans (cX.2 r hr).len n6
    refine ⟨_, pss_cons (ps_set (i := 2) scJoin.nd rfl (Or.inl rfl) (pe_lst pa_nil))
      (pss_cons (ps_for PassesOwn.never rfl (pi_list (pv 0)) (pg_name (i := 3) scJoin.nd rfl (Or.inl rfl))
        (pss_cons (ps_set (i := 4) scJoin.nd rfl (Or.inr rfl) (pe_lst pa_nil))
        (pss_cons (ps_for PassesOwn.never rfl (pi_list (pv 3)) (pg_name (i := 5) scJoin.nd rfl (Or.inl rfl))
          (pss_one (ps_set (i := 4) scJoin.nd rfl (Or.inr rfl) (pe_op op_cat (pv 4) (pe_lc (own := [("_law_out", 6)]) (g := gName 6) (tt := tTest (tOp (rIn K true) (tVar 6) (tVar 4))) rfl scJoin.nd (pi_list (pe_ix ix_list (pv 1) (pv 5) (fun _ _ => rfl))) (blkOk_by (own := [("_law_out", 6)]) (N := NJ) (sc := defScope sJoin) (by decide +kernel))
            (fun _ _ _ _ _ => pg_name (i := 6) scJoin.nd rfl (Or.inl rfl)) (fun _ _ _ _ _ => pts_one (pt_cmpR op_notIn_seq (pv 6) (pv 4) (by rfl))) (fun _ _ _ _ _ => pv 6))))))
        (pss_one (ps_expr (pe_bm PySem.F.plainAttrs_list PySem.F.slot_list_append PySem.F.type_list_append mt_append (pv 2) (pa_cons
          (pe_lc (own := [("_law_word", 7)]) (g := gName 7) (tt := tTest (tOp (rIn K false) (tVar 7) (tVar 4))) rfl scJoin.nd (pi_range1 (by rfl) B.range (pa_cons (pe_callB call_len_seq (by rfl) B.len PySem.boot_len (pa_cons (pv 1) pa_nil)) pa_nil)) (blkOk_by (own := [("_law_word", 7)]) (N := NJ) (sc := defScope sJoin) (by decide +kernel))
            (fun _ _ _ _ _ => pg_name (i := 7) scJoin.nd rfl (Or.inl rfl)) (fun _ _ _ _ _ => pts_one (pt_cmpR op_in_seq (pv 7) (pv 4) (by rfl))) (fun _ _ _ _ _ => pv 7)) pa_nil)))))))
      (pss_one (ps_ret (pv 2)))), ?_⟩
    refine ⟨Nat.zero_le _, fun D hD => ?_⟩
    refine ⟨_, rfl, l1, rfl, ⟨_, SqL.of (Same.new hD _ _ q1)⟩, for_list (K := K) (a := l1) (xs := ls1) (fun i σ H' => (∃ v3 v4 v5, σ = [some (.ref l1), some (.ref l2), some (.ref D), v3, v4, v5, none, none]) ∧ Same H H' ∧ ∃ ks, H' D = some (.lst ks) ∧ RowsL H' ks ((mul R X).take i) ∧ ∀ v ∈ ks, v ≠ .ref D)
      ⟨⟨none, none, none, rfl⟩, Same.new hD, [], upd_same, .nil, fun _ h => by cases h⟩ (fun i σ H' _ ⟨_, s, _⟩ => SqL.of (s _ _ q1)) ?_ ?_⟩
    · rintro i y σ H1 hi ⟨⟨v3, v4, v5, rfl⟩, s1, ks, hk, hKs, nD⟩
      obtain ⟨r, hr0, t, rfl, ht⟩ := L2.Paired.at r1 hi
      have hin : i < n := by have := (List.getElem?_eq_some_iff.mp hr0).1; omega
      have hr' : r = row R i := (row_of hr0).symm
      have cr : Can n r := cR.2 r (List.mem_of_getElem? hr0)
      refine ⟨Nat.zero_le _, fun o0 ho0 => ?_⟩
      refine ⟨_, rfl, t, rfl, ⟨_, SqL.of (Same.new ho0 _ _ (s1 _ _ ht))⟩, for_list (K := K) (a := t) (xs := vI r) (fun e σ H' => (∃ o v5 os, σ = [some (.ref l1), some (.ref l2), some (.ref D), some (.ref t), some (.ref o), v5, none, none] ∧ H' o = some (.lst (vI os)) ∧ os.length ≤ 6 * e ∧ ∀ z, z ∈ os ↔ z ∈ cat X (r.take e)) ∧ Same H1 H')
        ⟨⟨o0, v5, [], rfl, upd_same, Nat.zero_le _, fun z => by simp [cat]⟩, Same.new ho0⟩ (fun e σ H' _ ⟨_, s⟩ => SqL.of ((s1.trans s) _ _ ht)) ?_ ?_⟩
      · rintro e y σ H2 he ⟨⟨o, v5, os, rfl, ho, lo, mo⟩, s2⟩
        obtain ⟨x, hx, rfl⟩ := vI_at he
        have hxb := cr.mem (List.mem_of_getElem? hx)
        obtain ⟨m, rfl⟩ := Int.eq_ofNat_of_zero_le hxb.1
        have s12 := s1.trans s2
        obtain ⟨u, hu, tx, rfl, htx⟩ := L2.Paired.at2 (RowsL.same s12 r2) (at_row (by omega : m < X.length))
        refine ⟨_, rfl, _, rfl, _, rfl, l2, _, _, _, rfl, rfl, SqL.of (s12 _ _ q2), atI_nat hu, tx, rfl, ⟨_, SqL.of htx⟩, fun D2 hD2 => ?_⟩
        have l6 : (row X m).length ≤ 6 := row_len x6 m
        refine lc_list (K := K) (a := tx) (xs := vI (row X m)) (fun g H' => Same H2 H' ∧ H' D2 = some (.lst (vI (((row X m).take g).filter fun z => !decide (z ∈ os))))) ⟨Same.new hD2, upd_same⟩ (fun g H' _ ⟨s, _⟩ => SqL.of (s _ _ htx)) ?_ ?_
        · rintro g z H3 hg ⟨s3, hd3⟩
          obtain ⟨z, hz, rfl⟩ := vI_at hg
          refine ⟨rfl, ?_⟩
          refine ⟨_, rfl, _, rfl, o, _, rfl, .inl (SqL.of (s3 _ _ ho)), rfl, flat_vI _, _, rfl, ?_⟩
          show if (if true = true then !inV (.int z) (vI os) else inV (.int z) (vI os)) = true then _ else _
          rw [if_pos rfl, inV_vI, take_more hz, List.filter_append]
          by_cases c : z ∈ os
          · rw [decide_eq_true c]
            refine iteF ⟨s3, ?_⟩
            rw [List.filter_cons_of_neg (by simp [c]), List.filter_nil, List.append_nil]
            exact hd3
          · rw [decide_eq_false c]
            refine iteT ?_
            refine ⟨_, rfl, _, hd3, ?_, Same.updN s3 hD2, ?_⟩
            · rw [vI_len]
              exact Nat.lt_of_le_of_lt (Nat.le_trans (List.length_filter_le _ _) (Nat.le_trans (List.length_take_le' _ _) l6)) (by decide)
            · rw [upd_same, List.filter_cons_of_pos (by simp [c]), List.filter_nil]
              unfold vI
              rw [List.map_append]
              rfl
        · rintro H3 ⟨s3, hd3⟩
          rw [vI_len, List.take_length] at hd3
          have hl := (List.getElem?_eq_some_iff.mp hx).1
          have r6 := cr.len
          refine ⟨o, D2, _, _, rfl, rfl, s3 _ _ ho, hd3, ?_, fun p hp => ?_⟩
          · rw [vI_len, vI_len]
            have h1 := List.length_filter_le (fun z => !decide (z ∈ os)) (row X m)
            exact Nat.le_trans (by omega : _ ≤ 100) (by decide)
          · refine ⟨⟨p, _, os ++ (row X m).filter fun z => !decide (z ∈ os), rfl, ?_, ?_, fun z => ?_⟩, s2.trans (s3.trans (Same.new hp))⟩
            · rw [upd_same]
              unfold vI
              rw [List.map_append]
            · rw [List.length_append]
              have h1 := List.length_filter_le (fun z => !decide (z ∈ os)) (row X m)
              omega
            · rw [take_more hx, cat_snoc, List.mem_append, List.mem_append, ← mo z, Int.toNat_natCast]
              by_cases c : z ∈ os
              · simp [c]
              · simp [c]
      · rintro σ H2 ⟨⟨o, v5, os, rfl, ho, lo, mo⟩, s2⟩
        rw [vI_len, List.take_length] at mo
        rw [vI_len] at lo
        have s12 := s1.trans s2
        have hk2 := s2 _ _ hk
        refine ⟨_, rfl, .inl ⟨rfl, _, SqL.of hk2⟩, _, rfl, l2, _, rfl, .inl (SqL.of (s12 _ _ q2)), (ls2.length : Int), rfl, by omega, by omega, fun D2 hD2 => ?_⟩
        refine lc_range (lo := 0) (n := ls2.length) (fun g H' => Same H2 H' ∧ H' D2 = some (.lst (vI (asc os g)))) ⟨Same.new hD2, upd_same⟩ ?_ ?_
        · rintro g H3 hg ⟨s3, hd3⟩
          have g0 : (0 : Int) + (g : Int) = (g : Int) := Int.zero_add _
          rw [g0]
          refine ⟨rfl, ?_⟩
          refine ⟨_, rfl, _, rfl, o, _, rfl, .inl (SqL.of (s3 _ _ ho)), rfl, flat_vI _, _, rfl, ?_⟩
          show if (if false = true then !inV (.int (g : Int)) (vI os) else inV (.int (g : Int)) (vI os)) = true then _ else _
          rw [if_neg Bool.false_ne_true, inV_vI, asc_succ]
          by_cases hm : (g : Int) ∈ os
          · rw [decide_eq_true hm, if_pos hm]
            refine iteT ?_
            refine ⟨_, rfl, _, hd3, ?_, Same.updN s3 hD2, ?_⟩
            · rw [vI_len]
              exact Nat.lt_of_le_of_lt (Nat.le_trans (asc_len _ _) (by omega : g ≤ 6)) (by decide)
            · rw [upd_same]
              unfold vI
              rw [List.map_append]
              rfl
          · rw [decide_eq_false hm, if_neg hm]
            exact iteF ⟨s3, hd3⟩
        · rintro H3 ⟨s3, hd3⟩
          have nDD : D2 ≠ D := (ne_of_none hk2 hD2).symm
          obtain ⟨z1, z2⟩ := RowsL.snoc (o := .lst (ks ++ [.ref D2])) (RowsL.same (s2.trans s3) hKs) nD hd3 nDD
          refine ⟨D, ks, _, rfl, rfl, s3 _ _ hk2, ?_, ⟨_, _, _, rfl⟩, Same.updN (s12.trans s3) hD, ks ++ [.ref D2], upd_same, ?_, z2⟩
          · rw [Paired.length hKs]
            refine Nat.lt_of_le_of_lt (Nat.le_trans (List.length_take_le' _ _) (?_ : _ ≤ 6)) (by decide)
            rw [mul_len]
            omega
          · have e : (mul R X)[i]? = some (asc os ls2.length) := by
              rw [at_row (by rw [mul_len]; omega), mul_row (by omega), ← hr', e2, lX]
              exact congrArg some (asc_congr fun j _ => (mo (j : Int)).symm)
            rw [take_more e]
            exact z1
    · rintro σ H1 ⟨⟨v3, v4, v5, rfl⟩, s1, ks, hk, hKs, nD⟩
      rw [List.take_of_length_le (by rw [mul_len]; omega)] at hKs
      exact ⟨_, rfl, k H1 D ks s1 hD hk hKs⟩
end
end Toy
namespace Toy
open PySem L2
abbrev sLaw : Stmt := top 25
theorem Tab.offL {C a : Addr} {H : Hp} {p : Addr} {xs : List V} {R} (h : Tab C H p R) (e : H a = some (.lst xs)) : Tab C (Toy.off a H) p R := by
  obtain ⟨dx, tr, tp, ts, qs, h1, h2, h3, h4, h5, h6, h7⟩ := h
  have ne : ∀ {b : Addr} {o : HO}, H b = some o → o ≠ .lst xs → Toy.off a H b = some o := fun q d => by rw [off_ne (ne_of q e d)]; exact q
  exact ⟨dx, tr, tp, ts, qs, ne h1 (fun z => nomatch z), ne h2 (fun z => nomatch z), ne h3 (fun z => nomatch z), L2.Paired.mapP h4 fun _ _ ⟨t, e, q⟩ => ⟨t, e, ne q (fun z => nomatch z)⟩, ne h5 (fun z => nomatch z), L2.Paired.mapP h6 fun _ _ ⟨t, e, q⟩ => ⟨t, e, ne q (fun z => nomatch z)⟩, h7⟩
theorem Same.offN {A B : Hp} {x : Addr} (s : Same A B) (h : A x = none) : Same A (Toy.off x B) := fun q o e => by
  rw [off_ne (ne_of_none e h)]
  exact s q o e
theorem CanR.set {n m : Nat} {R : List (List Int)} {r : List Int} (c : CanR n R) (h : Can n r) : CanR n (R.set m r) := by
  refine ⟨by rw [List.length_set]; exact c.1, fun x hx => ?_⟩
  rcases List.mem_or_eq_of_mem_set hx with q | q
  · exact c.2 x q
  · rw [q]; exact h
theorem Paired.setAt {α β : Type} {F : α → β → Prop} {x : α} {y : β} (f : F x y) : ∀ {xs : List α} {ys : List β} (i : Nat), Paired F xs ys → Paired F (xs.set i x) (ys.set i y)
  | _, _, _, .nil => .nil
  | _, _, 0, .cons _ t => .cons f t
  | _, _, i + 1, .cons r t => .cons r (Paired.setAt f i t)
theorem ixN_nat {n j : Nat} (h : j < n) : ixN n (j : Int) = some j := by
  unfold ixN
  rw [if_pos (by omega), if_pos (by omega), Int.toNat_natCast]
theorem filt_filter {n : Nat} {p : Nat → Bool} {q : Int → Bool} : (filt n p).filter q = filt n fun o => p o && q (o : Int) := by
  induction n with
  | zero => rfl
  | succ n ih =>
    by_cases c : p n = true
    · rw [filt_yes c, List.filter_append, ih]
      by_cases d : q (n : Int) = true
      · rw [filt_yes (p := fun o => p o && q (o : Int)) (by rw [c, d]; rfl), List.filter_cons_of_pos d, List.filter_nil]
      · have d' : q (n : Int) = false := by simpa using d
        rw [filt_no (p := fun o => p o && q (o : Int)) (by rw [c, d']; rfl), List.filter_cons_of_neg d, List.filter_nil, List.append_nil]
    · have c' : p n = false := by simpa using c
      rw [filt_no c', ih, filt_no (p := fun o => p o && q (o : Int)) (by rw [c']; rfl)]
theorem Can.filter {n : Nat} {r : List Int} {q : Int → Bool} (c : Can n r) : Can n (r.filter q) := by
  have e := can_filt c
  rw [← e, filt_filter]
  exact filt_can _
/-- the rows of a list of lists are not the list itself -/
theorem RowsL.avoid {H : Hp} {l : Addr} {ls : List V} {R} (h : RowsL H ls R) (hl : H l = some (.lst ls)) : ∀ v ∈ ls, v ≠ .ref l := fun v hv z => by
  obtain ⟨i, hi⟩ := List.mem_iff_getElem?.mp hv
  obtain ⟨r, _, t, e, q⟩ := L2.Paired.at h hi
  rw [z] at e
  cases e
  rw [q] at hl
  have e2 : vI r = ls := by injection hl with h1; injection h1
  rw [← e2] at hv
  unfold vI at hv
  obtain ⟨x, _, hx⟩ := List.mem_map.mp hv
  rw [z] at hx
  cases hx
section
variable {P : Program} {w : World} {K : PySem.W.Frag} {mg : Str → Option Value} {base : Heap}
structure Al (K : PySem.W.Frag) (mg : Str → Option Value) (C : Addr) : Prop where
  L : Lt K mg
  G : Gs K mg C
  sf : PySem.W.selfFirst K C = true
  nf : PySem.W.notFirst K C (.ref C) = true
  init : ∃ f fd, Fun K "__init__" "Table.__init__" sInit f fd ∧ Mk K C f ∧ Binds K fd ["self", "rows"] []
  rows : ∃ f fd, Fun K "rows" "Table.rows" sRows f fd ∧ Meth K C "rows" f ∧ Binds K fd ["self"] []
  chSame : ∃ f fd, Fun K "check_same_size" "check_same_size" sChSame f fd ∧ mg "check_same_size" = some (.ref f) ∧ Binds K fd ["first", "second"] []
  invert : ∃ f fd, Fun K "__invert__" "Table.__invert__" sInvert f fd ∧ (PySem.W.findIn K (.ref C) "__invert__" = some (some (.ref f)) ∧ PySem.W.isFn K (.ref f) = true) ∧ Binds K fd ["self"] []
  only : ∃ f fd, Fun K "_only_into" "Table._only_into" sOnly f fd ∧ Meth K C "_only_into" f ∧ Binds K fd ["self", "outs"] []
  each : ∃ f fd, Fun K "_out_of_each" "Table._out_of_each" sEach f fd ∧ Meth K C "_out_of_each" f ∧ Binds K fd ["self", "words"] []
  out : ∃ f fd, Fun K "_out_of_some" "Table._out_of_some" sOutSome f fd ∧ Meth K C "_out_of_some" f ∧ Binds K fd ["self", "words"] []
  lsh : ∃ f fd, Fun K "__lshift__" "Table.__lshift__" sLsh f fd ∧ (PySem.W.findIn K (.ref C) "__lshift__" = some (some (.ref f)) ∧ PySem.W.isFn K (.ref f) = true) ∧ Binds K fd ["self", "other"] []
  rsh : ∃ f fd, Fun K "__rshift__" "Table.__rshift__" sRsh f fd ∧ (PySem.W.findIn K (.ref C) "__rshift__" = some (some (.ref f)) ∧ PySem.W.isFn K (.ref f) = true) ∧ Binds K fd ["self", "other"] []
  mul : ∃ f fd, Fun K "__mul__" "Table.__mul__" sMul f fd ∧ (PySem.W.findIn K (.ref C) "__mul__" = some (some (.ref f)) ∧ PySem.W.isFn K (.ref f) = true) ∧ Binds K fd ["self", "other"] []
  le : ∃ f fd, Fun K "__le__" "Table.__le__" sLe f fd ∧ (PySem.W.findIn K (.ref C) "__le__" = some (some (.ref f)) ∧ PySem.W.isFn K (.ref f) = true) ∧ Binds K fd ["self", "other"] []
  box : ∃ f fd, Fun K "_law_box" "_law_box" sBox f fd ∧ mg "_law_box" = some (.ref f) ∧ Binds K fd ["_law_script"] []
  rowsL : ∃ f fd, Fun K "_law_rows" "_law_rows" sRowsL f fd ∧ mg "_law_rows" = some (.ref f) ∧ Binds K fd ["_law_box_here", "_law_n", "_law_least"] []
  join : ∃ f fd, Fun K "_law_join" "_law_join" sJoin f fd ∧ mg "_law_join" = some (.ref f) ∧ Binds K fd ["_law_first", "_law_last"] []
  pairsL : ∃ f fd, Fun K "_law_pairs" "_law_pairs" sPairsL f fd ∧ mg "_law_pairs" = some (.ref f) ∧ Binds K fd ["_law_rows_here"] []
  is : ∃ f fd, Fun K "_law_is" "_law_is" sIs f fd ∧ mg "_law_is" = some (.ref f) ∧ Binds K fd ["_law_value", "_law_due"] []
abbrev NL : List Str := ["_law_script", "_law_box_here", "_law_n", "_law_first", "_law_whole", "_law_middle", "_law_one", "_law_every", "_law_best", "_law_kind", "_law_at", "_law_more", "_law_x", "_law_joint", "_law_due", "_law_out", "_law_k", "_law_row", "_law_pair"]
theorem scLaw : FnScope NL ["_law_script"] (defScope sLaw) := ⟨rfl, rfl, rfl, by decide +kernel, rfl, by decide +kernel, by decide +kernel⟩
theorem ok_law {f C : Addr} {fd : FuncData} (F : Fun K "law" "law" sLaw f fd) (S : Al K mg C) : FnOk P w K mg base CX0 7 f fd ["_law_script"] (spLaw K) := by
  obtain ⟨fT, fdT, FT, mT, bT⟩ := S.L.take
  obtain ⟨fN, fdN, FN, MN, bN⟩ := S.init
  obtain ⟨fR, fdR, FR, mR, bR⟩ := S.rows
  obtain ⟨fZ, fdZ, FZ, mZ, bZ⟩ := S.chSame
  obtain ⟨fJ, fdJ, FJ, ⟨mJ, mJ2⟩, bJ⟩ := S.invert
  obtain ⟨fO, fdO, FO, mO, bO⟩ := S.only
  obtain ⟨fE, fdE, FE, mE, bE⟩ := S.each
  obtain ⟨fU, fdU, FU, mU, bU⟩ := S.out
  obtain ⟨fLs, fdLs, FLs, ⟨mLs, mLs2⟩, bLs⟩ := S.lsh
  obtain ⟨fRs, fdRs, FRs, ⟨mRs, mRs2⟩, bRs⟩ := S.rsh
  obtain ⟨fM, fdM, FM, ⟨mM, mM2⟩, bM⟩ := S.mul
  obtain ⟨fLe, fdLe, FLe, ⟨mLe, mLe2⟩, bLe⟩ := S.le
  obtain ⟨fB, fdB, FB, mB, bB⟩ := S.box
  obtain ⟨fRL, fdRL, FRL, mRL, bRL⟩ := S.rowsL
  obtain ⟨fK, fdK, FK, mK, bK⟩ := S.join
  obtain ⟨fP, fdP, FP, mP, bP⟩ := S.pairsL
  obtain ⟨fI, fdI, FI, mI, bI⟩ := S.is
  have B := S.L.B
  have Gs := S.G
  refine F.ok scLaw (fun vs H Q E h => ?_) (fun cdv A outer s H vs Q E hr h => ?_)
  · obtain ⟨a, ns, rfl, _⟩ := h
    rfl
  · obtain ⟨a, ns, rfl, hS, hlen, k⟩ := h
    have hr1 : Room 1 _ := hr.mono (by decide)
    have hr2 : Room 2 _ := hr.mono (by decide)
    have hr3 : Room 3 _ := hr.mono (by decide)
    have hr4 : Room 4 _ := hr.mono (by decide)
    have hr5 : Room 5 _ := hr.mono (by decide)
    refine ⟨_, pss_cons (ps_set (i := 1) scLaw.nd rfl (Or.inl rfl) (pe_call (ok_box FB B) hr1 rfl mB FB.kp bB .nil pass0 (pa_cons (pv 0) pa_nil)))
      (pss_cons (ps_set (i := 2) scLaw.nd rfl (Or.inl rfl) (pe_op op_add pe_int (pe_call (ok_take FT B) hr1 rfl mT FT.kp bT .nil pass0 (pa_cons (pv 1) (pa_cons pe_int pa_nil)))))
      (pss_cons (ps_set (i := 3) scLaw.nd rfl (Or.inl rfl) (pe_call (ok_rowsL FRL S.L) hr3 rfl mRL FRL.kp bRL .nil pass0 (pa_cons (pv 1) (pa_cons (pv 2) (pa_cons pe_int pa_nil)))))
      (pss_cons (ps_set (i := 4) scLaw.nd rfl (Or.inr rfl) (pe_call (ok_rowsL FRL S.L) hr3 rfl mRL FRL.kp bRL .nil pass0 (pa_cons (pv 1) (pa_cons (pv 2) (pa_cons pe_int pa_nil)))))
      (pss_cons (ps_set (i := 5) scLaw.nd rfl (Or.inr rfl) (pe_call (ok_rowsL FRL S.L) hr3 rfl mRL FRL.kp bRL .nil pass0 (pa_cons (pv 1) (pa_cons (pv 2) (pa_cons pe_int pa_nil)))))
      (pss_cons (ps_set (i := 6) scLaw.nd rfl (Or.inl rfl) (pe_make MN (ok_init FN Gs) hr4 rfl Gs.T.mgC bN .nil pass0 (pa_cons (pv 3) pa_nil)))
      (pss_cons (ps_set (i := 7) scLaw.nd rfl (Or.inl rfl) (pe_make MN (ok_init FN Gs) hr4 rfl Gs.T.mgC bN .nil pass0 (pa_cons (pv 4) pa_nil)))
      (pss_cons (ps_set (i := 8) scLaw.nd rfl (Or.inr rfl) (pe_meth0 (pe_op (op_bin (ok_Rsh FRs Gs FN MN bN FE mE bE FZ mZ bZ FJ mJ mJ2 bJ) hr bRs pass0 S.sf mRs mRs2) (pv 6) (pv 7)) Gs.T.cl mR (ok_rows FR Gs) hr1 bR .nil pass0))
      (pss_cons (ps_set (i := 9) scLaw.nd rfl (Or.inl rfl) (pe_call (ok_take FT B) hr1 rfl mT FT.kp bT .nil pass0 (pa_cons (pv 1) (pa_cons pe_int pa_nil))))
      (C8.pss_cut (ps_if (pt_cmpR op_gt (pv 9) pe_int (nomark _)) (pss_one (ps_set (i := 5) scLaw.nd rfl (Or.inr rfl)
        (pe_lc (own := [("_law_k", 16)]) (g := gName 16) (tt := tYes) (te := tLc (iList K (tOp (rIxL K) (tVar 5) (tVar 16))) (gName 15) (tTest (tOp (rIn K false) (tVar 15) (tOp (rIxL K) (tVar 8) (tVar 16)))) (tVar 15) [15]) rfl scLaw.nd (pi_range1 (by rfl) B.range (pa_cons (pv 2) pa_nil)) (blkOk_by (own := [("_law_k", 16)]) (N := NL) (sc := defScope sLaw) (by decide +kernel))
          (fun _ _ _ _ _ => pg_name (i := 16) scLaw.nd rfl (Or.inr rfl)) (fun _ _ _ _ _ => pts_nil)
          (fun _ _ _ _ _ => pe_lc (own := [("_law_out", 15)]) (g := gName 15) (tt := tTest (tOp (rIn K false) (tVar 15) (tOp (rIxL K) (tVar 8) (tVar 16)))) rfl scLaw.nd (pi_list (pe_ix ix_list (pv 5) (pv 16) (fun _ _ => rfl))) (blkOk_re (N := NL) (by decide +kernel))
            (fun _ _ _ _ _ => pg_name (i := 15) scLaw.nd rfl (Or.inl rfl)) (fun _ _ _ _ _ => pts_one (pt_cmpR op_in_seq (pv 15) (pe_ix ix_list (pv 8) (pv 16) (fun _ _ => rfl)) (by rfl))) (fun _ _ _ _ _ => pv 15))))) pss_nil)
      (C8.pss_cut (ps_if (pt_cmpR op_eq (pv 9) pe_int (nomark _)) (pss_cons (ps_set (i := 10) scLaw.nd rfl (Or.inr rfl) (pe_call (ok_take FT B) hr1 rfl mT FT.kp bT .nil pass0 (pa_cons (pv 1) (pa_cons (pv 2) pa_nil)))) (pss_cons (ps_set (i := 11) scLaw.nd rfl (Or.inr rfl) (pe_call (ok_take FT B) hr1 rfl mT FT.kp bT .nil pass0 (pa_cons (pv 1) (pa_cons (pv 2) pa_nil))))
        (pss_one (ps_asg (pe_lc (own := [("_law_out", 15)]) (g := gName 15) (tt := tOr (tTest (tOp (rIn K false) (tVar 15) (tOp (rIxL K) (tVar 8) (tVar 10)))) (tTest (tOp rEq (tVar 15) (tVar 11)))) rfl scLaw.nd (pi_range1 (by rfl) B.range (pa_cons (pv 2) pa_nil)) (blkOk_by (own := [("_law_out", 15)]) (N := NL) (sc := defScope sLaw) (by decide +kernel))
          (fun _ _ _ _ _ => pg_name (i := 15) scLaw.nd rfl (Or.inl rfl)) (fun _ _ _ _ _ => pts_one (PW.pt (pw_or (pt_cmpR op_in_seq (pv 15) (pe_ix ix_list (pv 8) (pv 10) (fun _ _ => rfl)) (by rfl)) (pw_or1 (pt_cmpR op_eq (pv 15) (pv 11) (nomark _)))))) (fun _ _ _ _ _ => pv 15)) (pg_sub (pv 5) (pv 10) set_list))))) pss_nil)
      (pss_cons (ps_set (i := 12) scLaw.nd rfl (Or.inl rfl) (pe_make MN (ok_init FN Gs) hr4 rfl Gs.T.mgC bN .nil pass0 (pa_cons
        (pe_lc (own := [("_law_row", 17)]) (g := gName 17) (tt := tYes) rfl scLaw.nd (pi_list (pv 5)) (blkOk_by (own := [("_law_row", 17)]) (N := NL) (sc := defScope sLaw) (by decide +kernel))
          (fun _ _ _ _ _ => pg_name (i := 17) scLaw.nd rfl (Or.inl rfl)) (fun _ _ _ _ _ => pts_nil) (te := tCB (rLst K) (tCons (tVar 17) tNil))
          (fun _ _ _ _ _ => pe_callTy call_list_of (by rfl) B.list (by decide +kernel) (pa_cons (pv 17) pa_nil))) pa_nil)))
      (pss_cons (ps_set (i := 13) scLaw.nd rfl (Or.inl rfl) (pe_call (ok_join FK B) hr1 rfl mK FK.kp bK .nil pass0 (pa_cons (pv 3) (pa_cons (pv 5) pa_nil))))
      (pss_cons (ps_set (i := 14) scLaw.nd rfl (Or.inl rfl) (pe_cmpR op_eq (pe_callB call_len_seq (by rfl) B.len PySem.boot_len (pa_cons
        (pe_lc (own := [("_law_pair", 18)]) (g := gName 18) (tt := tTest (tOp (rNotInD K) (tVar 18) (tCall spPairsL [] E0 (tCons (tVar 4) tNil)))) rfl scLaw.nd (pi_list (pe_call (ok_pairsL FP B) hr1 rfl mP FP.kp bP .nil pass0 (pa_cons (pv 13) pa_nil))) (blkOk_by (own := [("_law_pair", 18)]) (N := NL) (sc := defScope sLaw) (by decide +kernel))
          (fun _ _ _ _ _ => pg_name (i := 18) scLaw.nd rfl (Or.inl rfl)) (fun _ _ _ _ _ => pts_one (pt_cmpR (op_notInD (units65 hr)) (pv 18) (pe_call (ok_pairsL FP B) hr1 rfl mP FP.kp bP .nil pass0 (pa_cons (pv 4) pa_nil)) (by rfl))) (fun _ _ _ _ _ => pv 18)) pa_nil)) pe_int (nomark _)))
      (pss_cons (ps_if (PW.pt (pw_or (pt_not (pt_val (pe_call (ok_is FI) hr1 rfl mI FI.kp bI .nil pass0 (pa_cons (pe_cmpR (op_cmp (fun _ _ => rfl) (ok_le FLe Gs FZ mZ bZ) hr2 bLe pass0 S.nf mLe mLe2) (pe_op (op_bin (ok_mul FM Gs FN MN bN FU mU bU FZ mZ bZ) hr5 bM pass0 S.sf mM mM2) (pv 6) (pv 12)) (pv 7) (nomark _)) (pa_cons (pv 14) pa_nil))))) (pw_or1 (pt_not (pt_val (pe_call (ok_is FI) hr1 rfl mI FI.kp bI .nil pass0 (pa_cons (pe_cmpR (op_cmp (fun _ _ => rfl) (ok_le FLe Gs FZ mZ bZ) hr2 bLe pass0 S.nf mLe mLe2) (pv 12) (pe_op (op_bin (ok_Rsh FRs Gs FN MN bN FE mE bE FZ mZ bZ FJ mJ mJ2 bJ) hr bRs pass0 S.sf mRs mRs2) (pv 6) (pv 7)) (nomark _)) (pa_cons (pv 14) pa_nil)))))))) (pss_one ps_never) pss_nil)
      (pss_cons (ps_if (pt_not (pt_val (pe_call (ok_is FI) hr1 rfl mI FI.kp bI .nil pass0 (pa_cons (pe_cmpR (op_cmp (fun _ _ => rfl) (ok_le FLe Gs FZ mZ bZ) hr2 bLe pass0 S.nf mLe mLe2) (pv 6) (pe_op (op_bin (ok_Lsh FLs Gs FN MN bN FO mO bO FZ mZ bZ) hr5 bLs pass0 S.sf mLs mLs2) (pv 7) (pv 12)) (nomark _)) (pa_cons (pv 14) pa_nil))))) (pss_one ps_never) pss_nil)
      (pss_one (ps_ret (pe_and (pe_cmpR (op_cmp (fun _ _ => rfl) (ok_le FLe Gs FZ mZ bZ) hr2 bLe pass0 S.nf mLe mLe2) (pe_op (op_bin (ok_mul FM Gs FN MN bN FU mU bU FZ mZ bZ) hr5 bM pass0 S.sf mM mM2) (pv 6) (pe_op (op_bin (ok_Rsh FRs Gs FN MN bN FE mE bE FZ mZ bZ FJ mJ mJ2 bJ) hr bRs pass0 S.sf mRs mRs2) (pv 6) (pv 7))) (pv 7) (nomark _)) (pe_one (pe_cmpR (op_cmp (fun _ _ => rfl) (ok_le FLe Gs FZ mZ bZ) hr2 bLe pass0 S.nf mLe mLe2) (pe_op (op_bin (ok_mul FM Gs FN MN bN FU mU bU FZ mZ bZ) hr5 bM pass0 S.sf mM mM2) (pe_op (op_bin (ok_Lsh FLs Gs FN MN bN FO mO bO FZ mZ bZ) hr5 bLs pass0 S.sf mLs mLs2) (pv 7) (pv 12)) (pv 12)) (pv 7) (nomark _))))))))))))))))))))), ?_⟩
    refine ⟨_, rfl, a, ns, rfl, hS, hlen, fun H1 b c s1 hb0 hb1 => ?_⟩
    refine ⟨_, rfl, b, c, 5, rfl, hb1, by decide, by decide, fun r H2 hr2' hb2 s2 => ?_⟩
    refine ⟨_, _, rfl, rfl, ?_⟩
    have en : (1 : Int) + (r : Int) = ((r + 1 : Nat) : Int) := by omega
    have eV : (fun (i j : Int) => V.int (i + j)) 1 (r : Int) = V.int ((r + 1 : Nat) : Int) := congrArg V.int en
    rw [eV]
    have n1 : 1 ≤ r + 1 := by omega
    have n6 : r + 1 ≤ 6 := by omega
    generalize r + 1 = n at n1 n6
    refine ⟨_, rfl, _, rfl, b, c, n, 0, rfl, hb2, n1, n6, by decide, by decide, fun H3 l1 ls1 F hb3 s3 l10 hl1 hF eF hCF => ?_⟩
    refine ⟨_, rfl, _, rfl, b, c, n, 0, rfl, hb3, n1, n6, by decide, by decide, fun H4 l2 ls2 W hb4 s4 l20 hl2 hW eW hCW => ?_⟩
    refine ⟨_, rfl, _, rfl, b, c, n, 0, rfl, hb4, n1, n6, by decide, by decide, fun H5 l3 ls3 M hb5 s5 l30 hl3 hM eM hCM => ?_⟩
    have cF : CanR n F := ⟨eF, hCF⟩
    have cW : CanR n W := ⟨eW, hCW⟩
    have cM : CanR n M := ⟨eM, hCM⟩
    -- what stands without the box
    have g1 : off b H4 l1 = some (.lst ls1) := s4 _ _ hl1
    have gF : RowsL (off b H4) ls1 F := RowsL.same s4 (RowsN.rows hF)
    have gW : RowsL (off b H4) ls2 W := RowsN.rows hW
    have o5 : Same (off b H4) H5 := s5.trans off_le
    have f1 := o5 _ _ g1
    have f2 := o5 _ _ hl2
    have fF := RowsL.same o5 gF
    have fW := RowsL.same o5 gW
    have f3 := off_le _ _ hl3
    have fM : RowsL H5 ls3 M := RowsL.same off_le (RowsN.rows hM)
    have l3b : l3 ≠ b := off_ne_of hl3
    have l3n : H4 l3 = none := by
      have := l30
      rw [off_ne l3b] at this
      exact this
    have l3c := hb4.nec l3n
    -- the tables of first and of whole
    refine ⟨_, rfl, init_of f1 fF cF n1 n6 fun H6 x1 s6 x10 T1 => ?_⟩
    refine ⟨_, rfl, init_of (s6 _ _ f2) (RowsL.same s6 fW) cW n1 n6 fun H7 x2 s7 x20 T2 => ?_⟩
    have T17 := T1.same s7
    have s57 := s6.trans s7
    obtain ⟨dx1, tr1, tp1, ts1, qs1, h1, _⟩ := id T17
    obtain ⟨dx2, tr2, tp2, ts2, qs2, h2, _⟩ := id T2
    -- best
    refine ⟨_, rfl, _, rfl, x1, dx1, _, x2, dx2, _, rfl, rfl, h1, h2, x1, x2, F, W, rfl, T17, T2, by omega, fun H8 y s8 y0 Ty => ?_⟩
    obtain ⟨dy, _, _, _, _, hy, _⟩ := id Ty
    refine ⟨y, dy, _, rfl, hy, tf_rows' _ _ _, y, rsh F W, rfl, Ty, fun H9 bl bls s9 bl0 hbl hbr => ?_⟩
    have s58 := s57.trans s8
    have s59 := s58.trans s9
    have hb9 := hb5.same s59
    have T19 := T17.same (s8.trans s9)
    have T29 := T2.same (s8.trans s9)
    have cB : CanR n (rsh F W) := by
      have := rsh_can (F := F) (W := W) (by omega)
      rw [eF] at this
      exact this
    have l38 := s58 _ _ f3
    -- what the rest of the law leans on: G, without the box and without the middle's list
    obtain ⟨G, hG⟩ : ∃ G, G = off l3 (off b H9) := ⟨_, rfl⟩
    have Gle : Same G (off b H9) := by rw [hG]; exact off_le
    have G3 : G l3 = none := by rw [hG]; exact off_at
    have G4 : Same (off b H4) G := by
      rw [hG]
      exact Same.offN (s5.trans (Same.off s59)) l30
    have p1 := G4 _ _ g1
    have p2 := G4 _ _ hl2
    have pF := RowsL.same G4 gF
    have pW := RowsL.same G4 gW
    have l39 : off b H9 l3 = some (.lst ls3) := by rw [off_ne l3b]; exact s9 _ _ l38
    have PT1 : Tab C G x1 F := by rw [hG]; exact (T19.off hb9).offL l39
    have PT2 : Tab C G x2 W := by rw [hG]; exact (T29.off hb9).offL l39
    have inG : ∀ {t : Addr} {o : HO}, H8 t = none → H9 t = some o → G t = some o := fun q e => by
      have hb8 := hb5.same s58
      rw [hG, off_ne (ne_of_none l38 q).symm, off_ne (hb8.ne q)]
      exact e
    have pbl := inG bl0 hbl
    have pB : RowsL G bls (rsh F W) := L2.Paired.mapP hbr fun _ _ ⟨t, e, q, z⟩ => ⟨t, e, inG z q⟩
    have avM : ∀ v ∈ ls3, v ≠ .ref l3 := RowsL.avoid fM f3
    have pM : RowsL (off b H9) ls3 M := RowsL.same (Same.off s59) (RowsN.rows hM)
    clear T1 T17 T2 T19 T29 h1 h2 hy Ty fF fW f1 f2 hbr hbl gF gW g1 hF hW hM
    -- kind
    refine ⟨_, rfl, b, c, 3, rfl, hb9, by decide, by decide, fun kd H10 hkd hb10 s10 => ?_⟩
    have SG10 : Same G (off b H10) := Gle.trans s10
    -- the two changes of the middle
    refine ⟨fun σ' H' => ∃ m mks Mr v10 v11, σ' = [some (.ref a), some (.ref b), some (.int n), some (.ref l1), some (.ref l2), some (.ref m), some (.ref x1), some (.ref x2), some (.ref bl), some (.int (kd : Int)), v10, v11, none, none, none, none, none, none, none] ∧ BoxAt H' b c ∧ m ≠ b ∧ m ≠ c ∧ G m = none ∧ Same G (off b H') ∧
        H' m = some (.lst mks) ∧ RowsL H' mks Mr ∧ CanR n Mr ∧ ∀ v ∈ mks, v ≠ .ref m, ?_, ?_⟩
    · refine ⟨_, rfl, _, _, rfl, rfl, _, rfl, ?_⟩
      refine ite2 (fun _ => ?_) (fun _ => ⟨l3, ls3, M, none, none, rfl, hb10, l3b, l3c, G3, SG10, off_le _ _ (s10 _ _ l39), RowsL.same (s10.trans off_le) pM, cM, avM⟩)
      refine ⟨_, rfl, n, rfl, by omega, by omega, fun D hD => ?_⟩
      have Db := hb10.ne hD
      have Dc := hb10.nec hD
      have m10 : H10 l3 = some (.lst ls3) := off_le _ _ (s10 _ _ l39)
      have M10 : RowsL H10 ls3 M := RowsL.same (s10.trans off_le) pM
      have b10 := (SG10.trans off_le) _ _ pbl
      have B10 := RowsL.same (SG10.trans off_le) pB
      refine lc_range (lo := 0) (n := n) (fun i H' => Same H10 H' ∧ ∃ ks, H' D = some (.lst ks) ∧ RowsL H' ks (((List.range n).map fun j => (row M j).filter fun o => decide (o ∈ row (rsh F W) j)).take i) ∧ ∀ v ∈ ks, v ≠ .ref D) ⟨Same.new hD, [], upd_same, .nil, fun _ h => by cases h⟩ ?_ ?_
      · rintro i H11 hi ⟨s11, ks, hk, hKs, nD⟩
        have e0 : (0 : Int) + (i : Int) = (i : Int) := Int.zero_add _
        rw [e0]
        obtain ⟨u1, i1, t1, rfl, y1⟩ := L2.Paired.at2 (RowsL.same s11 M10) (at_row (by omega : i < M.length))
        obtain ⟨u2, i2, t2, rfl, y2⟩ := L2.Paired.at2 (RowsL.same s11 B10) (at_row (by rw [rsh_len]; omega : i < (rsh F W).length))
        refine ⟨rfl, yesT (iteT ?_)⟩
        refine ⟨_, rfl, _, rfl, l3, _, _, _, rfl, rfl, SqL.of (s11 _ _ m10), atI_nat i1, t1, rfl, ⟨_, SqL.of y1⟩, fun D2 hD2 => ?_⟩
        have r6 := (cM.row hi).len
        refine lc_list (K := K) (a := t1) (xs := vI (row M i)) (fun g H' => Same H11 H' ∧ H' D2 = some (.lst (vI (((row M i).take g).filter fun o => decide (o ∈ row (rsh F W) i))))) ⟨Same.new hD2, upd_same⟩ (fun g H' _ ⟨s, _⟩ => SqL.of (s _ _ y1)) ?_ ?_
        · rintro g z H12 hg ⟨s12, hd12⟩
          obtain ⟨z, hz, rfl⟩ := vI_at hg
          refine ⟨rfl, ?_⟩
          refine ⟨_, rfl, _, rfl, _, rfl, bl, _, _, _, rfl, rfl, SqL.of ((s11.trans s12) _ _ b10), atI_nat i2, t2, _, rfl, .inl (SqL.of (s12 _ _ y2)), rfl, flat_vI _, _, rfl, ?_⟩
          show if (if false = true then !inV (.int z) (vI (row (rsh F W) i)) else inV (.int z) (vI (row (rsh F W) i))) = true then _ else _
          rw [if_neg Bool.false_ne_true, inV_vI, take_more hz, List.filter_append]
          by_cases c : z ∈ row (rsh F W) i
          · rw [decide_eq_true c]
            refine iteT ?_
            refine ⟨_, rfl, _, hd12, ?_, Same.updN s12 hD2, ?_⟩
            · rw [vI_len]
              exact Nat.lt_of_le_of_lt (Nat.le_trans (List.length_filter_le _ _) (Nat.le_trans (List.length_take_le' _ _) (Nat.le_trans r6 n6))) (by decide)
            · rw [upd_same, List.filter_cons_of_pos (by simp [c]), List.filter_nil]
              unfold vI
              rw [List.map_append]
              rfl
          · rw [decide_eq_false c]
            refine iteF ⟨s12, ?_⟩
            rw [List.filter_cons_of_neg (by simp [c]), List.filter_nil, List.append_nil]
            exact hd12
        · rintro H12 ⟨s12, hd12⟩
          rw [vI_len, List.take_length] at hd12
          have nDD : D2 ≠ D := (ne_of_none hk hD2).symm
          obtain ⟨z1, z2⟩ := RowsL.snoc (o := .lst (ks ++ [.ref D2])) (RowsL.same s12 hKs) nD hd12 nDD
          refine ⟨ks, s12 _ _ hk, ?_, Same.updN (s11.trans s12) hD, ks ++ [.ref D2], upd_same, ?_, z2⟩
          · rw [Paired.length hKs]
            refine Nat.lt_of_le_of_lt (Nat.le_trans (List.length_take_le' _ _) (?_ : _ ≤ 6)) (by decide)
            rw [List.length_map, List.length_range]
            exact n6
          · have e : ((List.range n).map fun j => (row M j).filter fun o => decide (o ∈ row (rsh F W) j))[i]? = some ((row M i).filter fun o => decide (o ∈ row (rsh F W) i)) := by
              rw [List.getElem?_map, List.getElem?_range hi]
              rfl
            rw [take_more e]
            exact z1
      · rintro H11 ⟨s11, ks, hk, hKs, nD⟩
        rw [List.take_of_length_le (by rw [List.length_map, List.length_range]; exact Nat.le_refl _)] at hKs
        refine ⟨D, ks, _, none, none, rfl, hb10.same s11, Db, Dc, SG10.free (off_free hD), SG10.trans (Same.off s11), hk, hKs, ⟨by rw [List.length_map, List.length_range], fun r hr => ?_⟩, nD⟩
        obtain ⟨j, hj, rfl⟩ := List.mem_map.mp hr
        exact (cM.row (List.mem_range.mp hj)).filter
    rintro σ' H11 ⟨m, mks, Mr, v10, v11, rfl, hb11, mb, mc, mG, SG11, hm, hMr, cMr, avm⟩
    refine ⟨fun σ' H' => ∃ mks Mr v10 v11, σ' = [some (.ref a), some (.ref b), some (.int n), some (.ref l1), some (.ref l2), some (.ref m), some (.ref x1), some (.ref x2), some (.ref bl), some (.int (kd : Int)), v10, v11, none, none, none, none, none, none, none] ∧ Same G H' ∧
        H' m = some (.lst mks) ∧ RowsL H' mks Mr ∧ CanR n Mr, ?_, ?_⟩
    · refine ⟨_, rfl, rfl, _, rfl, ?_⟩
      refine ite2 (fun _ => ?_) (fun _ => ⟨mks, Mr, v10, v11, rfl, SG11.trans off_le, hm, hMr, cMr⟩)
      have om : off b H11 m = some (.lst mks) := by rw [off_ne mb]; exact hm
      have oR : RowsL (off b H11) mks Mr := L2.Paired.mapP hMr fun _ r ⟨t, e, q⟩ => ⟨t, e, by
        obtain ⟨cs, i, pd, st, eb, _⟩ := hb11
        rw [off_ne fun z => ?_]
        · exact q
        · rw [z, eb] at q
          injection q with q
          injection q with q
          unfold vI at q
          cases r with
          | nil => cases q
          | cons x xs => cases q⟩
      refine ⟨_, rfl, _, rfl, b, c, (n : Int), rfl, hb11, by omega, by omega, fun ra H12 hra hb12 s12 => ?_⟩
      refine ⟨_, rfl, _, rfl, b, c, (n : Int), rfl, hb12, by omega, by omega, fun rm H13 hrm hb13 s13 => ?_⟩
      have s1113 := s12.trans s13
      have SG13 := SG11.trans s1113
      have m13 := off_le _ _ (s1113 _ _ om)
      have R13 : RowsL H13 mks Mr := RowsL.same (s1113.trans off_le) oR
      have b13 := (SG13.trans off_le) _ _ pbl
      have B13 := RowsL.same (SG13.trans off_le) pB
      refine ⟨_, rfl, n, rfl, by omega, by omega, fun D hD => ?_⟩
      refine lc_range (lo := 0) (n := n) (fun i H' => Same H13 H' ∧ H' D = some (.lst (vI (filt i fun o => decide ((o : Int) ∈ row (rsh F W) ra) || decide ((o : Int) = (rm : Int)))))) ⟨Same.new hD, upd_same⟩ ?_ ?_
      · rintro i H14 hi ⟨s14, hd⟩
        have e0 : (0 : Int) + (i : Int) = (i : Int) := Int.zero_add _
        rw [e0]
        obtain ⟨u2, i2, t2, rfl, y2⟩ := L2.Paired.at2 (RowsL.same s14 B13) (at_row (by rw [rsh_len]; omega : ra < (rsh F W).length))
        have yes : (decide ((i : Int) ∈ row (rsh F W) ra) || decide ((i : Int) = (rm : Int))) = true → ∃ acc, H14 D = some (.lst acc) ∧ acc.length < sizeLine ∧ Same H13 (upd H14 D (.lst (acc ++ [V.int (i : Int)]))) ∧
            upd H14 D (.lst (acc ++ [V.int (i : Int)])) D = some (.lst (vI (filt (i + 1) fun o => decide ((o : Int) ∈ row (rsh F W) ra) || decide ((o : Int) = (rm : Int))))) := fun q => by
          refine ⟨_, hd, ?_, Same.updN s14 hD, ?_⟩
          · rw [vI_len]
            exact Nat.lt_of_le_of_lt (Nat.le_trans (filt_len _ _) (by omega : i ≤ 6)) (by decide)
          · rw [upd_same, filt_yes (p := fun o : Nat => decide ((o : Int) ∈ row (rsh F W) ra) || decide ((o : Int) = (rm : Int))) q]
            unfold vI
            rw [List.map_append]
            rfl
        refine ⟨rfl, ?_⟩
        refine ⟨_, rfl, _, rfl, _, rfl, bl, _, _, _, rfl, rfl, SqL.of (s14 _ _ b13), atI_nat i2, t2, _, rfl, .inl (SqL.of y2), rfl, flat_vI _, _, rfl, ?_⟩
        show if (if false = true then !inV (.int (i : Int)) (vI (row (rsh F W) ra)) else inV (.int (i : Int)) (vI (row (rsh F W) ra))) = true then _ else _
        rw [if_neg Bool.false_ne_true, inV_vI]
        by_cases c1 : (i : Int) ∈ row (rsh F W) ra
        · rw [decide_eq_true c1]
          refine iteT (iteT ?_)
          exact ⟨_, rfl, yes (by simp [c1])⟩
        · rw [decide_eq_false c1]
          refine iteF ?_
          refine ⟨_, rfl, _, rfl, rfl, _, rfl, ?_⟩
          by_cases c2 : (i : Int) = (rm : Int)
          · rw [decide_eq_true (by rw [c2])]
            refine iteT ?_
            exact ⟨_, rfl, yes (by simp [c2])⟩
          · rw [decide_eq_false (fun z => c2 (V.int.inj z))]
            refine iteF ⟨s14, ?_⟩
            rw [filt_no (p := fun o : Nat => decide ((o : Int) ∈ row (rsh F W) ra) || decide ((o : Int) = (rm : Int))) (by simp [c1, c2])]
            exact hd
      · rintro H14 ⟨s14, hd⟩
        have m14 := s14 _ _ m13
        have nDm : D ≠ m := (ne_of_none m13 hD).symm
        have lm : mks.length = n := by rw [Paired.length R13, cMr.1]
        refine ⟨_, rfl, _, rfl, m, mks, _, ra, rfl, rfl, m14, ixN_nat (by omega), mks.set ra (.ref D), Mr.set ra (filt n fun o => decide ((o : Int) ∈ row (rsh F W) ra) || decide ((o : Int) = (rm : Int))), _, _, rfl, Same.updN (SG13.trans (off_le.trans s14)) mG, upd_same, ?_, cMr.set (filt_can _)⟩
        refine Paired.setAt ⟨D, rfl, by rw [upd_ne nDm]; exact hd⟩ ra ?_
        exact PairedIn.map (RowsL.same s14 R13) fun v r hv ⟨t', e', q⟩ => ⟨t', e', by rw [upd_ne fun z => avm v hv (by rw [e', z])]; exact q⟩
    rintro σ' H12 ⟨mks2, Mr2, w10, w11, rfl, SG12, hm2, hMr2, cX⟩
    clear hm hMr cMr avm SG11 hb11
    have eX := cX.1
    -- x
    refine ⟨_, rfl, m, rfl, ⟨_, SqL.of hm2⟩, fun D hD => copies (by show 17 < 19; decide) hD hm2 hMr2 (by omega) fun H13 ks s13 hk hKs => ?_⟩
    refine init_of hk hKs cX n1 n6 fun H14 x3 s14 x30 T3 => ?_
    have s1214 := s13.trans s14
    have SG14 := SG12.trans s1214
    -- joint
    refine ⟨_, rfl, _, rfl, l1, m, ls1, mks2, n, F, Mr2, rfl, SG14 _ _ p1, RowsL.same SG14 pF, s1214 _ _ hm2, RowsL.same s1214 hMr2, cF, cX, n6, fun H15 jl jks s15 jl0 hjl hJ => ?_⟩
    have SG15 := SG14.trans s15
    have f6 : ∀ r ∈ mul F Mr2, r.length ≤ 6 := fun r hr => by
      have := (mul_can (F := F) (X := Mr2) (by omega)).2 r hr
      have := this.len
      omega
    have w6 : ∀ r ∈ W, r.length ≤ 6 := fun r hr => Nat.le_trans (hCW r hr).len n6
    -- due
    refine ⟨_, rfl, jl, jks, mul F Mr2, rfl, hjl, hJ, by rw [mul_len]; omega, f6, fun H16 pj pjs s16 pj0 hpj hPJ => ?_⟩
    refine ⟨pj, rfl, ⟨_, SqL.of hpj⟩, fun D3 hD3 => ?_⟩
    have SG16 := SG15.trans s16
    have l36 : (prs 0 (mul F Mr2)).length ≤ 36 := by have := prs_len 0 _ f6; rw [mul_len] at this; omega
    refine lc_list (K := K) (a := pj) (xs := pjs) (fun i H' => Same H16 H' ∧ ∃ os, H' D3 = some (.lst os) ∧ os.length = (((prs 0 (mul F Mr2)).take i).filter fun p => !decide (p ∈ prs 0 W)).length) ⟨Same.new hD3, [], upd_same, rfl⟩ (fun i H' _ ⟨s, _⟩ => SqL.of (s _ _ hpj)) ?_ ?_
    · rintro i y H17 hi ⟨s17, os, hd, lo⟩
      obtain ⟨p, hp, t, rfl, ht⟩ := L2.Paired.at (PairsT.same s17 hPJ) hi
      refine ⟨rfl, ?_⟩
      have SG17 := SG16.trans s17
      refine ⟨_, rfl, _, rfl, l2, ls2, W, rfl, SG17 _ _ p2, RowsL.same SG17 pW, by omega, w6, fun H18 pw pws s18 pw0 hpw hPW => ?_⟩
      refine ⟨_, _, dpP (s18 _ _ ht), .lst (SqL.of hpw) (dpAllP hPW), shP p, (shPs _).2, _, rfl, ?_⟩
      rw [any_dPs]
      have s1618 := s17.trans s18
      have hd18 := s18 _ _ hd
      by_cases c1 : p ∈ prs 0 W
      · rw [decide_eq_true c1]
        refine iteF ⟨s1618, os, hd18, ?_⟩
        rw [take_more hp, List.filter_append, List.filter_cons_of_neg (by simp [c1]), List.filter_nil, List.append_nil]
        exact lo
      · rw [decide_eq_false c1]
        refine iteT ?_
        refine ⟨_, rfl, os, hd18, ?_, Same.updN s1618 hD3, _, upd_same, ?_⟩
        · rw [lo]
          exact Nat.lt_of_le_of_lt (Nat.le_trans (List.length_filter_le _ _) (Nat.le_trans (List.length_take_le' _ _) l36)) (by decide)
        · rw [take_more hp, List.filter_append, List.filter_cons_of_pos (by simp [c1]), List.filter_nil, List.length_append, List.length_append, lo]
          rfl
    · rintro H17 ⟨s17, os, hd, lo⟩
      rw [Paired.length hPJ, List.take_length] at lo
      refine ⟨D3, os, rfl, .inl (SqL.of hd), rfl, ?_⟩
      have edue : decide (V.int ((os.length : Nat) : Int) = V.int 0) = le (mul F Mr2) W := by
        rw [lo, Bool.eq_iff_iff, decide_eq_true_iff]
        unfold le
        rw [List.all_eq_true]
        constructor
        · intro h p hp
          have h0 : ((prs 0 (mul F Mr2)).filter fun p => !decide (p ∈ prs 0 W)).length = 0 := by have := V.int.inj h; omega
          rw [List.length_eq_zero_iff, List.filter_eq_nil_iff] at h0
          have := h0 p hp
          simpa using this
        · intro h
          have h0 : ((prs 0 (mul F Mr2)).filter fun p => !decide (p ∈ prs 0 W)) = [] := List.filter_eq_nil_iff.mpr fun p hp => by
            have := h p hp
            simpa using this
          rw [h0]
          rfl
      rw [edue]
      have SG17 := SG16.trans s17
      have s1417 := s15.trans (s16.trans s17)
      have T117 := PT1.same SG17
      have T217 := PT2.same SG17
      have T317 := T3.same s1417
      obtain ⟨dx1, _, _, _, _, h1, _⟩ := id T117
      obtain ⟨dx2, _, _, _, _, h2, _⟩ := id T217
      obtain ⟨dx3, _, _, _, _, h3, _⟩ := id T317
      have canF : ∀ r ∈ F, Can F.length r := fun r hr => by rw [eF]; exact hCF r hr
      -- one * x <= every
      refine ⟨_, rfl, _, rfl, x1, dx1, _, x3, dx3, _, rfl, rfl, h1, h3, x1, x3, F, Mr2, rfl, T117, T317, by omega, canF, fun H18 y1 s18 y10 Y1 => ?_⟩
      obtain ⟨dy1, _, _, _, _, e1, _⟩ := id Y1
      refine ⟨_, rfl, y1, dy1, _, x2, dx2, _, rfl, rfl, e1, s18 _ _ h2, y1, x2, mul F Mr2, W, rfl, Y1, T217.same s18, by rw [mul_len]; omega, fun H19 s19 => ?_⟩
      refine ⟨_, rfl, le (mul F Mr2) W, rfl, _, rfl, iteF ?_⟩
      have a19 := s18.trans s19
      -- x <= one >> every
      refine ⟨_, rfl, _, rfl, _, rfl, x1, dx1, _, x2, dx2, _, rfl, rfl, a19 _ _ h1, a19 _ _ h2, x1, x2, F, W, rfl, T117.same a19, T217.same a19, by omega, fun H20 y2 s20 y20 Y2 => ?_⟩
      obtain ⟨dy2, _, _, _, _, e2, _⟩ := id Y2
      have a20 := a19.trans s20
      refine ⟨x3, dx3, _, y2, dy2, _, rfl, rfl, a20 _ _ h3, e2, x3, y2, Mr2, rsh F W, rfl, T317.same a20, Y2, by rw [rsh_len]; omega, fun H21 s21 => ?_⟩
      refine ⟨_, rfl, le (mul F Mr2) W, by rw [le_rsh cF cX cW]; rfl, _, rfl, iteF ?_⟩
      have a21 := a20.trans s21
      -- one <= every << x
      refine ⟨_, rfl, _, rfl, _, rfl, x2, dx2, _, x3, dx3, _, rfl, rfl, a21 _ _ h2, a21 _ _ h3, x2, x3, W, Mr2, rfl, T217.same a21, T317.same a21, by omega, fun H22 y3 s22 y30 Y3 => ?_⟩
      obtain ⟨dy3, _, _, _, _, e3, _⟩ := id Y3
      have a22 := a21.trans s22
      refine ⟨x1, dx1, _, y3, dy3, _, rfl, rfl, a22 _ _ h1, e3, x1, y3, F, lsh W Mr2, rfl, T117.same a22, Y3, by rw [lsh_len]; omega, fun H23 s23 => ?_⟩
      refine ⟨_, rfl, le (mul F Mr2) W, by rw [le_lsh cF cX cW]; rfl, _, rfl, iteF ?_⟩
      have a23 := a22.trans s23
      -- one * (one >> every) <= every
      refine ⟨_, rfl, _, rfl, _, rfl, x1, dx1, _, x2, dx2, _, rfl, rfl, a23 _ _ h1, a23 _ _ h2, x1, x2, F, W, rfl, T117.same a23, T217.same a23, by omega, fun H24 y4 s24 y40 Y4 => ?_⟩
      have a24 := a23.trans s24
      obtain ⟨dy4, _, _, _, _, e4, _⟩ := id Y4
      refine ⟨x1, dx1, _, y4, dy4, _, rfl, rfl, a24 _ _ h1, e4, x1, y4, F, rsh F W, rfl, T117.same a24, Y4, by rw [rsh_len], canF, fun H25 y5 s25 y50 Y5 => ?_⟩
      have a25 := a24.trans s25
      obtain ⟨dy5, _, _, _, _, e5, _⟩ := id Y5
      refine ⟨_, rfl, y5, dy5, _, x2, dx2, _, rfl, rfl, e5, a25 _ _ h2, y5, x2, mul F (rsh F W), W, rfl, Y5, T217.same a25, by rw [mul_len]; omega, fun H26 s26 => ?_⟩
      refine ⟨_, rfl, ?_⟩
      rw [← le_rsh cF cB cW, le_refl cB.1]
      refine iteT ?_
      have a26 := a25.trans s26
      -- (every << x) * x <= every
      have cL : CanR n (lsh W Mr2) := by
        have := lsh_can (W := W) (L := Mr2) (by omega)
        rw [eW] at this
        exact this
      refine ⟨_, rfl, _, rfl, x2, dx2, _, x3, dx3, _, rfl, rfl, a26 _ _ h2, a26 _ _ h3, x2, x3, W, Mr2, rfl, T217.same a26, T317.same a26, by omega, fun H27 y6 s27 y60 Y6 => ?_⟩
      have a27 := a26.trans s27
      obtain ⟨dy6, _, _, _, _, e6, _⟩ := id Y6
      refine ⟨_, rfl, y6, dy6, _, x3, dx3, _, rfl, rfl, e6, a27 _ _ h3, y6, x3, lsh W Mr2, Mr2, rfl, Y6, T317.same a27, by rw [lsh_len]; omega, by rw [lsh_len, eW]; exact cL.2, fun H28 y7 s28 y70 Y7 => ?_⟩
      have a28 := a27.trans s28
      obtain ⟨dy7, _, _, _, _, e7, _⟩ := id Y7
      refine ⟨_, rfl, y7, dy7, _, x2, dx2, _, rfl, rfl, e7, a28 _ _ h2, y7, x2, mul (lsh W Mr2) Mr2, W, rfl, Y7, T217.same a28, by rw [mul_len, lsh_len], fun H29 s29 => ?_⟩
      rw [← le_lsh cL cX cW, le_refl cL.1]
      exact k _
end
end Toy
namespace Toy
open PySem L2
/-! ### What the top has written, the head -/
theorem all_mk {l : PySem.W.OpenLaw} {w : World} {K : PySem.W.Frag} {h : Heap} {mg : Str → Option Value} {fa C : Addr} {tM : Tok} (X : K.In h) (G : h.Ns mainGlobals mg) (hfa : mg "law" = some (.ref fa))
    {f1 : Addr} {od1 an1 : Option Addr} {sl1 : Array (Option Value)} {oc1 kV1 dc1 pm1 cd1 ct1 : Value}
    {f2 : Addr} {od2 an2 : Option Addr} {sl2 : Array (Option Value)} {oc2 kV2 dc2 pm2 cd2 ct2 : Value}
    {f3 : Addr} {od3 an3 : Option Addr} {sl3 : Array (Option Value)} {oc3 kV3 dc3 pm3 cd3 ct3 : Value}
    {f4 : Addr} {od4 an4 : Option Addr} {sl4 : Array (Option Value)} {oc4 kV4 dc4 pm4 cd4 ct4 : Value}
    {f5 : Addr} {od5 an5 : Option Addr} {sl5 : Array (Option Value)} {oc5 kV5 dc5 pm5 cd5 ct5 : Value}
    {f6 : Addr} {od6 an6 : Option Addr} {sl6 : Array (Option Value)} {oc6 kV6 dc6 pm6 cd6 ct6 : Value}
    {f7 : Addr} {od7 an7 : Option Addr} {sl7 : Array (Option Value)} {oc7 kV7 dc7 pm7 cd7 ct7 : Value}
    {f8 : Addr} {od8 an8 : Option Addr} {sl8 : Array (Option Value)} {oc8 kV8 dc8 pm8 cd8 ct8 : Value}
    {f9 : Addr} {od9 an9 : Option Addr} {sl9 : Array (Option Value)} {oc9 kV9 dc9 pm9 cd9 ct9 : Value}
    {f10 : Addr} {od10 an10 : Option Addr} {sl10 : Array (Option Value)} {oc10 kV10 dc10 pm10 cd10 ct10 : Value}
    {f11 : Addr} {od11 an11 : Option Addr} {sl11 : Array (Option Value)} {oc11 kV11 dc11 pm11 cd11 ct11 : Value}
    {f12 : Addr} {od12 an12 : Option Addr} {sl12 : Array (Option Value)} {oc12 kV12 dc12 pm12 cd12 ct12 : Value}
    {f13 : Addr} {od13 an13 : Option Addr} {sl13 : Array (Option Value)} {oc13 kV13 dc13 pm13 cd13 ct13 : Value}
    {f14 : Addr} {od14 an14 : Option Addr} {sl14 : Array (Option Value)} {oc14 kV14 dc14 pm14 cd14 ct14 : Value}
    {f15 : Addr} {od15 an15 : Option Addr} {sl15 : Array (Option Value)} {oc15 kV15 dc15 pm15 cd15 ct15 : Value}
    {f16 : Addr} {od16 an16 : Option Addr} {sl16 : Array (Option Value)} {oc16 kV16 dc16 pm16 cd16 ct16 : Value}
    {f17 : Addr} {od17 an17 : Option Addr} {sl17 : Array (Option Value)} {oc17 kV17 dc17 pm17 cd17 ct17 : Value}
    {f18 : Addr} {od18 an18 : Option Addr} {sl18 : Array (Option Value)} {oc18 kV18 dc18 pm18 cd18 ct18 : Value}
    {f19 : Addr} {od19 an19 : Option Addr} {sl19 : Array (Option Value)} {oc19 kV19 dc19 pm19 cd19 ct19 : Value}
    {f20 : Addr} {od20 an20 : Option Addr} {sl20 : Array (Option Value)} {oc20 kV20 dc20 pm20 cd20 ct20 : Value}
    {f21 : Addr} {od21 an21 : Option Addr} {sl21 : Array (Option Value)} {oc21 kV21 dc21 pm21 cd21 ct21 : Value}
    {f22 : Addr} {od22 an22 : Option Addr} {sl22 : Array (Option Value)} {oc22 kV22 dc22 pm22 cd22 ct22 : Value}
    {f23 : Addr} {od23 an23 : Option Addr} {sl23 : Array (Option Value)} {oc23 kV23 dc23 pm23 cd23 ct23 : Value}
    {f24 : Addr} {od24 an24 : Option Addr} {sl24 : Array (Option Value)} {oc24 kV24 dc24 pm24 cd24 ct24 : Value}
    {f25 : Addr} {od25 an25 : Option Addr} {sl25 : Array (Option Value)} {oc25 kV25 dc25 pm25 cd25 ct25 : Value}
    (aC : PySem.W.nsIn K mainGlobals "Table" = some (some (.ref C)))
    (a1 : PySem.W.nsIn K mainGlobals "is_word" = some (some (.ref f1)))
    (l1 : K.lookup f1 = some ⟨oc1, od1, .func (PySem.W.fnOf "is_word" "is_word" (defArgs sIsWord) (defBody sIsWord) (defScope sIsWord) .none kV1 dc1 pm1 an1 cd1 ct1), sl1⟩)
    (c1 : PySem.W.codeIn K cd1 "is_word" = true)
    (k1 : PySem.W.keepIn K (.ref f1) = true)
    (a2 : PySem.W.nsIn K mainGlobals "all_words" = some (some (.ref f2)))
    (l2 : K.lookup f2 = some ⟨oc2, od2, .func (PySem.W.fnOf "all_words" "all_words" (defArgs sAllWords) (defBody sAllWords) (defScope sAllWords) .none kV2 dc2 pm2 an2 cd2 ct2), sl2⟩)
    (c2 : PySem.W.codeIn K cd2 "all_words" = true)
    (k2 : PySem.W.keepIn K (.ref f2) = true)
    (a3 : PySem.W.nsIn K mainGlobals "is_size" = some (some (.ref f3)))
    (l3 : K.lookup f3 = some ⟨oc3, od3, .func (PySem.W.fnOf "is_size" "is_size" (defArgs sIsSize) (defBody sIsSize) (defScope sIsSize) .none kV3 dc3 pm3 an3 cd3 ct3), sl3⟩)
    (c3 : PySem.W.codeIn K cd3 "is_size" = true)
    (k3 : PySem.W.keepIn K (.ref f3) = true)
    (a4 : PySem.W.nsIn K mainGlobals "check_size" = some (some (.ref f4)))
    (l4 : K.lookup f4 = some ⟨oc4, od4, .func (PySem.W.fnOf "check_size" "check_size" (defArgs sCheckSize) (defBody sCheckSize) (defScope sCheckSize) .none kV4 dc4 pm4 an4 cd4 ct4), sl4⟩)
    (c4 : PySem.W.codeIn K cd4 "check_size" = true)
    (k4 : PySem.W.keepIn K (.ref f4) = true)
    (a5 : PySem.W.nsIn K mainGlobals "check_word" = some (some (.ref f5)))
    (l5 : K.lookup f5 = some ⟨oc5, od5, .func (PySem.W.fnOf "check_word" "check_word" (defArgs sCheckWord) (defBody sCheckWord) (defScope sCheckWord) .none kV5 dc5 pm5 an5 cd5 ct5), sl5⟩)
    (c5 : PySem.W.codeIn K cd5 "check_word" = true)
    (k5 : PySem.W.keepIn K (.ref f5) = true)
    (a6 : PySem.W.nsIn K mainGlobals "ascending" = some (some (.ref f6)))
    (l6 : K.lookup f6 = some ⟨oc6, od6, .func (PySem.W.fnOf "ascending" "ascending" (defArgs sAsc) (defBody sAsc) (defScope sAsc) .none kV6 dc6 pm6 an6 cd6 ct6), sl6⟩)
    (c6 : PySem.W.codeIn K cd6 "ascending" = true)
    (k6 : PySem.W.keepIn K (.ref f6) = true)
    (a7 : PySem.W.findIn K (.ref C) "__init__" = some (some (.ref f7)))
    (i7 : PySem.W.isFn K (.ref f7) = true)
    (l7 : K.lookup f7 = some ⟨oc7, od7, .func (PySem.W.fnOf "__init__" "Table.__init__" (defArgs sInit) (defBody sInit) (defScope sInit) .none kV7 dc7 pm7 an7 cd7 ct7), sl7⟩)
    (c7 : PySem.W.codeIn K cd7 "Table.__init__" = true)
    (k7 : PySem.W.keepIn K (.ref f7) = true)
    (a8 : PySem.W.findIn K (.ref C) "rows" = some (some (.ref f8)))
    (i8 : PySem.W.isFn K (.ref f8) = true)
    (l8 : K.lookup f8 = some ⟨oc8, od8, .func (PySem.W.fnOf "rows" "Table.rows" (defArgs sRows) (defBody sRows) (defScope sRows) .none kV8 dc8 pm8 an8 cd8 ct8), sl8⟩)
    (c8 : PySem.W.codeIn K cd8 "Table.rows" = true)
    (k8 : PySem.W.keepIn K (.ref f8) = true)
    (a9 : PySem.W.nsIn K mainGlobals "_law_box" = some (some (.ref f9)))
    (l9 : K.lookup f9 = some ⟨oc9, od9, .func (PySem.W.fnOf "_law_box" "_law_box" (defArgs sBox) (defBody sBox) (defScope sBox) .none kV9 dc9 pm9 an9 cd9 ct9), sl9⟩)
    (c9 : PySem.W.codeIn K cd9 "_law_box" = true)
    (k9 : PySem.W.keepIn K (.ref f9) = true)
    (a10 : PySem.W.nsIn K mainGlobals "_law_take" = some (some (.ref f10)))
    (l10 : K.lookup f10 = some ⟨oc10, od10, .func (PySem.W.fnOf "_law_take" "_law_take" (defArgs sTake) (defBody sTake) (defScope sTake) .none kV10 dc10 pm10 an10 cd10 ct10), sl10⟩)
    (c10 : PySem.W.codeIn K cd10 "_law_take" = true)
    (k10 : PySem.W.keepIn K (.ref f10) = true)
    (a11 : PySem.W.nsIn K mainGlobals "_law_words" = some (some (.ref f11)))
    (l11 : K.lookup f11 = some ⟨oc11, od11, .func (PySem.W.fnOf "_law_words" "_law_words" (defArgs sWords) (defBody sWords) (defScope sWords) .none kV11 dc11 pm11 an11 cd11 ct11), sl11⟩)
    (c11 : PySem.W.codeIn K cd11 "_law_words" = true)
    (k11 : PySem.W.keepIn K (.ref f11) = true)
    (a12 : PySem.W.nsIn K mainGlobals "_law_rows" = some (some (.ref f12)))
    (l12 : K.lookup f12 = some ⟨oc12, od12, .func (PySem.W.fnOf "_law_rows" "_law_rows" (defArgs sRowsL) (defBody sRowsL) (defScope sRowsL) .none kV12 dc12 pm12 an12 cd12 ct12), sl12⟩)
    (c12 : PySem.W.codeIn K cd12 "_law_rows" = true)
    (k12 : PySem.W.keepIn K (.ref f12) = true)
    (a13 : PySem.W.nsIn K mainGlobals "_law_pairs" = some (some (.ref f13)))
    (l13 : K.lookup f13 = some ⟨oc13, od13, .func (PySem.W.fnOf "_law_pairs" "_law_pairs" (defArgs sPairsL) (defBody sPairsL) (defScope sPairsL) .none kV13 dc13 pm13 an13 cd13 ct13), sl13⟩)
    (c13 : PySem.W.codeIn K cd13 "_law_pairs" = true)
    (k13 : PySem.W.keepIn K (.ref f13) = true)
    (a14 : PySem.W.nsIn K mainGlobals "check_same_size" = some (some (.ref f14)))
    (l14 : K.lookup f14 = some ⟨oc14, od14, .func (PySem.W.fnOf "check_same_size" "check_same_size" (defArgs sChSame) (defBody sChSame) (defScope sChSame) .none kV14 dc14 pm14 an14 cd14 ct14), sl14⟩)
    (c14 : PySem.W.codeIn K cd14 "check_same_size" = true)
    (k14 : PySem.W.keepIn K (.ref f14) = true)
    (a15 : PySem.W.findIn K (.ref C) "__invert__" = some (some (.ref f15)))
    (i15 : PySem.W.isFn K (.ref f15) = true)
    (l15 : K.lookup f15 = some ⟨oc15, od15, .func (PySem.W.fnOf "__invert__" "Table.__invert__" (defArgs sInvert) (defBody sInvert) (defScope sInvert) .none kV15 dc15 pm15 an15 cd15 ct15), sl15⟩)
    (c15 : PySem.W.codeIn K cd15 "Table.__invert__" = true)
    (k15 : PySem.W.keepIn K (.ref f15) = true)
    (a16 : PySem.W.findIn K (.ref C) "_only_into" = some (some (.ref f16)))
    (i16 : PySem.W.isFn K (.ref f16) = true)
    (l16 : K.lookup f16 = some ⟨oc16, od16, .func (PySem.W.fnOf "_only_into" "Table._only_into" (defArgs sOnly) (defBody sOnly) (defScope sOnly) .none kV16 dc16 pm16 an16 cd16 ct16), sl16⟩)
    (c16 : PySem.W.codeIn K cd16 "Table._only_into" = true)
    (k16 : PySem.W.keepIn K (.ref f16) = true)
    (a17 : PySem.W.findIn K (.ref C) "_out_of_each" = some (some (.ref f17)))
    (i17 : PySem.W.isFn K (.ref f17) = true)
    (l17 : K.lookup f17 = some ⟨oc17, od17, .func (PySem.W.fnOf "_out_of_each" "Table._out_of_each" (defArgs sEach) (defBody sEach) (defScope sEach) .none kV17 dc17 pm17 an17 cd17 ct17), sl17⟩)
    (c17 : PySem.W.codeIn K cd17 "Table._out_of_each" = true)
    (k17 : PySem.W.keepIn K (.ref f17) = true)
    (a18 : PySem.W.findIn K (.ref C) "__lshift__" = some (some (.ref f18)))
    (i18 : PySem.W.isFn K (.ref f18) = true)
    (l18 : K.lookup f18 = some ⟨oc18, od18, .func (PySem.W.fnOf "__lshift__" "Table.__lshift__" (defArgs sLsh) (defBody sLsh) (defScope sLsh) .none kV18 dc18 pm18 an18 cd18 ct18), sl18⟩)
    (c18 : PySem.W.codeIn K cd18 "Table.__lshift__" = true)
    (k18 : PySem.W.keepIn K (.ref f18) = true)
    (a19 : PySem.W.findIn K (.ref C) "__rshift__" = some (some (.ref f19)))
    (i19 : PySem.W.isFn K (.ref f19) = true)
    (l19 : K.lookup f19 = some ⟨oc19, od19, .func (PySem.W.fnOf "__rshift__" "Table.__rshift__" (defArgs sRsh) (defBody sRsh) (defScope sRsh) .none kV19 dc19 pm19 an19 cd19 ct19), sl19⟩)
    (c19 : PySem.W.codeIn K cd19 "Table.__rshift__" = true)
    (k19 : PySem.W.keepIn K (.ref f19) = true)
    (a20 : PySem.W.findIn K (.ref C) "_out_of_some" = some (some (.ref f20)))
    (i20 : PySem.W.isFn K (.ref f20) = true)
    (l20 : K.lookup f20 = some ⟨oc20, od20, .func (PySem.W.fnOf "_out_of_some" "Table._out_of_some" (defArgs sOutSome) (defBody sOutSome) (defScope sOutSome) .none kV20 dc20 pm20 an20 cd20 ct20), sl20⟩)
    (c20 : PySem.W.codeIn K cd20 "Table._out_of_some" = true)
    (k20 : PySem.W.keepIn K (.ref f20) = true)
    (a21 : PySem.W.findIn K (.ref C) "__mul__" = some (some (.ref f21)))
    (i21 : PySem.W.isFn K (.ref f21) = true)
    (l21 : K.lookup f21 = some ⟨oc21, od21, .func (PySem.W.fnOf "__mul__" "Table.__mul__" (defArgs sMul) (defBody sMul) (defScope sMul) .none kV21 dc21 pm21 an21 cd21 ct21), sl21⟩)
    (c21 : PySem.W.codeIn K cd21 "Table.__mul__" = true)
    (k21 : PySem.W.keepIn K (.ref f21) = true)
    (a22 : PySem.W.findIn K (.ref C) "__le__" = some (some (.ref f22)))
    (i22 : PySem.W.isFn K (.ref f22) = true)
    (l22 : K.lookup f22 = some ⟨oc22, od22, .func (PySem.W.fnOf "__le__" "Table.__le__" (defArgs sLe) (defBody sLe) (defScope sLe) .none kV22 dc22 pm22 an22 cd22 ct22), sl22⟩)
    (c22 : PySem.W.codeIn K cd22 "Table.__le__" = true)
    (k22 : PySem.W.keepIn K (.ref f22) = true)
    (a23 : PySem.W.nsIn K mainGlobals "_law_join" = some (some (.ref f23)))
    (l23 : K.lookup f23 = some ⟨oc23, od23, .func (PySem.W.fnOf "_law_join" "_law_join" (defArgs sJoin) (defBody sJoin) (defScope sJoin) .none kV23 dc23 pm23 an23 cd23 ct23), sl23⟩)
    (c23 : PySem.W.codeIn K cd23 "_law_join" = true)
    (k23 : PySem.W.keepIn K (.ref f23) = true)
    (a24 : PySem.W.nsIn K mainGlobals "_law_is" = some (some (.ref f24)))
    (l24 : K.lookup f24 = some ⟨oc24, od24, .func (PySem.W.fnOf "_law_is" "_law_is" (defArgs sIs) (defBody sIs) (defScope sIs) .none kV24 dc24 pm24 an24 cd24 ct24), sl24⟩)
    (c24 : PySem.W.codeIn K cd24 "_law_is" = true)
    (k24 : PySem.W.keepIn K (.ref f24) = true)
    (a25 : PySem.W.nsIn K mainGlobals "law" = some (some (.ref f25)))
    (l25 : K.lookup f25 = some ⟨oc25, od25, .func (PySem.W.fnOf "law" "law" (defArgs sLaw) (defBody sLaw) (defScope sLaw) .none kV25 dc25 pm25 an25 cd25 ct25), sl25⟩)
    (c25 : PySem.W.codeIn K cd25 "law" = true)
    (k25 : PySem.W.keepIn K (.ref f25) = true)
    (pg : PySem.W.plainGet K C Str.empty = true)
    (hd : PySem.W.hasDictIn K C = true)
    (po : PySem.W.plainOver K C = true)
    (sa : PySem.W.findIn K (.ref C) "__setattr__" = some (some (.builtin "object.__setattr__")))
    (mk : PySem.W.makesIn K C = true)
    (kc : PySem.W.keepIn K (.ref C) = true)
    (nS : PySem.W.findIn K (.ref C) "size" = some none)
    (nR : PySem.W.findIn K (.ref C) "_rows" = some none)
    (nP : PySem.W.findIn K (.ref C) "_pairs" = some none)
    (rd : PySem.W.readsIn K C (.type "type") = true)
    (rg : PySem.W.specialIn K (.ref C) "__getattribute__" = some (some (.builtin "type.__getattribute__")))
    (ms : PySem.W.findCls K (.ref C) (.type "type") "MOST" = some (.val (.int 6 tM)))
    (ia : PySem.W.findIn K (.ref C) "__class__" = some (some (.builtin "object.__class__")))
    (ic : PySem.W.specialIn K (.builtin "object.__class__") "__get__" = some (some (.builtin "getset_descriptor.__get__")))
    (it : PySem.W.takesIn K (.builtin "object.__class__") = some true)
    (im : PySem.W.mroIn K C (.type "object") = some true)
    (sf : PySem.W.selfFirst K C = true)
    (nf : PySem.W.notFirst K C (.ref C) = true)
    (z0 : PySem.W.nsIn K mainGlobals "len" = some none)
    (z1 : PySem.W.nsIn K mainGlobals "range" = some none)
    (z2 : PySem.W.nsIn K mainGlobals "all" = some none)
    (z3 : PySem.W.nsIn K mainGlobals "list" = some none)
    (z4 : PySem.W.nsIn K mainGlobals "tuple" = some none)
    (z5 : PySem.W.nsIn K mainGlobals "enumerate" = some none)
    (z6 : PySem.W.nsIn K mainGlobals "isinstance" = some none)
    (z7 : PySem.W.nsIn K mainGlobals "int" = some none)
    (z8 : PySem.W.nsIn K mainGlobals "bool" = some none)
    (z9 : PySem.W.nsIn K mainGlobals "str" = some none)
    (z10 : PySem.W.nsIn K mainGlobals "abs" = some none)
    : ∃ fd : FuncData, (∀ (s : Shared) (v : Value), BindsTo s fd ⟨[v], []⟩ [("_law_script", v)]) ∧ ∀ base : Heap, K.In base → base.Ns mainGlobals mg → FnOk l.prog w K mg base CX0 7 fa fd ["_law_script"] (spLaw K) := by
  have e := hfa.symm.trans (PySem.W.mg_of X G a25)
  cases e
  have F1 := fun_mk (st := sIsWord) l1 c1 k1
  have b1 := F1.binds (ps := ["word", "size"]) fun _ _ _ _ _ _ us hl => match us, hl with | [_, _], _ => rfl
  have F2 := fun_mk (st := sAllWords) l2 c2 k2
  have b2 := F2.binds (ps := ["words", "size"]) fun _ _ _ _ _ _ us hl => match us, hl with | [_, _], _ => rfl
  have F3 := fun_mk (st := sIsSize) l3 c3 k3
  have b3 := F3.binds (ps := ["size"]) fun _ _ _ _ _ _ us hl => match us, hl with | [_], _ => rfl
  have F4 := fun_mk (st := sCheckSize) l4 c4 k4
  have b4 := F4.binds (ps := ["size"]) fun _ _ _ _ _ _ us hl => match us, hl with | [_], _ => rfl
  have F5 := fun_mk (st := sCheckWord) l5 c5 k5
  have b5 := F5.binds (ps := ["word", "size"]) fun _ _ _ _ _ _ us hl => match us, hl with | [_, _], _ => rfl
  have F6 := fun_mk (st := sAsc) l6 c6 k6
  have b6 := F6.binds (ps := ["words", "size"]) fun _ _ _ _ _ _ us hl => match us, hl with | [_, _], _ => rfl
  have F7 := fun_mk (st := sInit) l7 c7 k7
  have b7 := F7.binds (ps := ["self", "rows"]) fun _ _ _ _ _ _ us hl => match us, hl with | [_, _], _ => rfl
  have F8 := fun_mk (st := sRows) l8 c8 k8
  have b8 := F8.binds (ps := ["self"]) fun _ _ _ _ _ _ us hl => match us, hl with | [_], _ => rfl
  have F9 := fun_mk (st := sBox) l9 c9 k9
  have b9 := F9.binds (ps := ["_law_script"]) fun _ _ _ _ _ _ us hl => match us, hl with | [_], _ => rfl
  have F10 := fun_mk (st := sTake) l10 c10 k10
  have b10 := F10.binds (ps := ["_law_box_here", "_law_many"]) fun _ _ _ _ _ _ us hl => match us, hl with | [_, _], _ => rfl
  have F11 := fun_mk (st := sWords) l11 c11 k11
  have b11 := F11.binds (ps := ["_law_box_here", "_law_n", "_law_least"]) fun _ _ _ _ _ _ us hl => match us, hl with | [_, _, _], _ => rfl
  have F12 := fun_mk (st := sRowsL) l12 c12 k12
  have b12 := F12.binds (ps := ["_law_box_here", "_law_n", "_law_least"]) fun _ _ _ _ _ _ us hl => match us, hl with | [_, _, _], _ => rfl
  have F13 := fun_mk (st := sPairsL) l13 c13 k13
  have b13 := F13.binds (ps := ["_law_rows_here"]) fun _ _ _ _ _ _ us hl => match us, hl with | [_], _ => rfl
  have F14 := fun_mk (st := sChSame) l14 c14 k14
  have b14 := F14.binds (ps := ["first", "second"]) fun _ _ _ _ _ _ us hl => match us, hl with | [_, _], _ => rfl
  have F15 := fun_mk (st := sInvert) l15 c15 k15
  have b15 := F15.binds (ps := ["self"]) fun _ _ _ _ _ _ us hl => match us, hl with | [_], _ => rfl
  have F16 := fun_mk (st := sOnly) l16 c16 k16
  have b16 := F16.binds (ps := ["self", "outs"]) fun _ _ _ _ _ _ us hl => match us, hl with | [_, _], _ => rfl
  have F17 := fun_mk (st := sEach) l17 c17 k17
  have b17 := F17.binds (ps := ["self", "words"]) fun _ _ _ _ _ _ us hl => match us, hl with | [_, _], _ => rfl
  have F18 := fun_mk (st := sLsh) l18 c18 k18
  have b18 := F18.binds (ps := ["self", "other"]) fun _ _ _ _ _ _ us hl => match us, hl with | [_, _], _ => rfl
  have F19 := fun_mk (st := sRsh) l19 c19 k19
  have b19 := F19.binds (ps := ["self", "other"]) fun _ _ _ _ _ _ us hl => match us, hl with | [_, _], _ => rfl
  have F20 := fun_mk (st := sOutSome) l20 c20 k20
  have b20 := F20.binds (ps := ["self", "words"]) fun _ _ _ _ _ _ us hl => match us, hl with | [_, _], _ => rfl
  have F21 := fun_mk (st := sMul) l21 c21 k21
  have b21 := F21.binds (ps := ["self", "other"]) fun _ _ _ _ _ _ us hl => match us, hl with | [_, _], _ => rfl
  have F22 := fun_mk (st := sLe) l22 c22 k22
  have b22 := F22.binds (ps := ["self", "other"]) fun _ _ _ _ _ _ us hl => match us, hl with | [_, _], _ => rfl
  have F23 := fun_mk (st := sJoin) l23 c23 k23
  have b23 := F23.binds (ps := ["_law_first", "_law_last"]) fun _ _ _ _ _ _ us hl => match us, hl with | [_, _], _ => rfl
  have F24 := fun_mk (st := sIs) l24 c24 k24
  have b24 := F24.binds (ps := ["_law_value", "_law_due"]) fun _ _ _ _ _ _ us hl => match us, hl with | [_, _], _ => rfl
  have F25 := fun_mk (st := sLaw) l25 c25 k25
  have B : Bt mg := ⟨PySem.W.mg_none_of X G z0, PySem.W.mg_none_of X G z1, PySem.W.mg_none_of X G z2, PySem.W.mg_none_of X G z3, PySem.W.mg_none_of X G z4, PySem.W.mg_none_of X G z5, PySem.W.mg_none_of X G z6, PySem.W.mg_none_of X G z7, PySem.W.mg_none_of X G z8, PySem.W.mg_none_of X G z9, PySem.W.mg_none_of X G z10⟩
  have T : CT K mg C := ⟨PySem.W.mg_of X G aC, ⟨pg, hd, po, sa⟩, ⟨rd, rg⟩, ⟨_, ms⟩, nS, nR, nP⟩
  have I : C8.InsC K C := ⟨⟨pg, hd, po, sa⟩, ia, ic, it, im, by unfold PySem.W.kitOne; rw [if_pos (by simp)]⟩
  have L : Lt K mg := ⟨B, ⟨_, _, F10, PySem.W.mg_of X G a10, b10⟩, ⟨_, _, F11, PySem.W.mg_of X G a11, b11⟩⟩
  have Gg : Gs K mg C := ⟨B, T, ⟨_, _, F1, PySem.W.mg_of X G a1, b1⟩, ⟨_, _, F2, PySem.W.mg_of X G a2, b2⟩, ⟨_, _, F3, PySem.W.mg_of X G a3, b3⟩, ⟨_, _, F4, PySem.W.mg_of X G a4, b4⟩, ⟨_, _, F5, PySem.W.mg_of X G a5, b5⟩, ⟨_, _, F6, PySem.W.mg_of X G a6, b6⟩⟩
  have A : Al K mg C := ⟨L, Gg, sf, nf, ⟨_, _, F7, ⟨mk, a7, i7, kc⟩, b7⟩, ⟨_, _, F8, ⟨a8, i8, k8⟩, b8⟩, ⟨_, _, F14, PySem.W.mg_of X G a14, b14⟩, ⟨_, _, F15, ⟨a15, i15⟩, b15⟩, ⟨_, _, F16, ⟨a16, i16, k16⟩, b16⟩, ⟨_, _, F17, ⟨a17, i17, k17⟩, b17⟩, ⟨_, _, F20, ⟨a20, i20, k20⟩, b20⟩, ⟨_, _, F18, ⟨a18, i18⟩, b18⟩, ⟨_, _, F19, ⟨a19, i19⟩, b19⟩, ⟨_, _, F21, ⟨a21, i21⟩, b21⟩, ⟨_, _, F22, ⟨a22, i22⟩, b22⟩, ⟨_, _, F9, PySem.W.mg_of X G a9, b9⟩, ⟨_, _, F12, PySem.W.mg_of X G a12, b12⟩, ⟨_, _, F23, PySem.W.mg_of X G a23, b23⟩, ⟨_, _, F13, PySem.W.mg_of X G a13, b13⟩, ⟨_, _, F24, PySem.W.mg_of X G a24, b24⟩⟩
  exact ⟨PySem.W.fnOf "law" "law" (defArgs sLaw) (defBody sLaw) (defScope sLaw) .none kV25 dc25 pm25 an25 cd25 ct25, fun s v => .of_eq rfl, fun base _ _ =>
    ok_law F25 A⟩
theorem walk {l : PySem.W.OpenLaw} {q : Program} {loose : List Str} {XP : (Str → Option Value) → Heap → Prop} {YP : World → Heap → Prop} {d : DefRec} {K : Params → PySem.W.Frag} (hn : l.most = some 63) (hdf : d.params.defaults = [])
    (hY : ∀ (w : World) (h : Heap), YP w h → (K w.params).In h)
    (F : ∀ (w : World) (mg : Str → Option Value) (fa : Addr) (h : Heap), (K w.params).In h → h.Ns mainGlobals mg → mg d.name = some (.ref fa) →
      ∃ fd : FuncData, (∀ (s : Shared) (u : Value), BindsTo s fd ⟨[u], []⟩ [("_law_script", u)]) ∧ ∀ base : Heap, (K w.params).In base → base.Ns mainGlobals mg → FnOk l.prog w (K w.params) mg base CX0 7 fa fd ["_law_script"] (spLaw (K w.params))) :
    PySem.W.WalkO q loose XP YP l.row.toRowW d [] (fun f vs => PySem.call f vs) :=
  L2.walk_of (n := 63) (k := 7) (x := "_law_script") (CX := fun _ => CX0) (sp := fun w => spLaw (K w.params)) hn (by decide) hdf ⟨rfl, by decide, by decide⟩ hY F (fun _ _ a ns hl _ hS => ⟨a, ns, rfl, hS, hl, fun _ => rfl⟩) fun _ _ _ _ _ z => z
end Toy
open PySem PySem.W PyProof.Rows in
set_option maxRecDepth 100000 in
set_option maxHeartbeats 0 in
theorem PySem.Challenge.cw_murmurline_k10_whole_fits_behind_holds : PySem.Challenge.rw_murmurline_k10_whole_fits_behind.Holds := by
  w_on; o_law; k_head; (case hw => w_witness2)
  k_fill
  refine Toy.walk (l := PySem.Challenge.rw_murmurline_k10_whole_fits_behind) rfl rfl (fun w h Y => PySem.W.kIn_of Y) ?F
  case F =>
    intro w mg fa h KX G hmg
    refine' Toy.all_mk KX G hmg ?aC ?a1 ?l1 ?c1 ?k1 ?a2 ?l2 ?c2 ?k2 ?a3 ?l3 ?c3 ?k3 ?a4 ?l4 ?c4 ?k4 ?a5 ?l5 ?c5 ?k5 ?a6 ?l6 ?c6 ?k6 ?a7 ?i7 ?l7 ?c7 ?k7 ?a8 ?i8 ?l8 ?c8 ?k8 ?a9 ?l9 ?c9 ?k9 ?a10 ?l10 ?c10 ?k10 ?a11 ?l11 ?c11 ?k11 ?a12 ?l12 ?c12 ?k12 ?a13 ?l13 ?c13 ?k13 ?a14 ?l14 ?c14 ?k14 ?a15 ?i15 ?l15 ?c15 ?k15 ?a16 ?i16 ?l16 ?c16 ?k16 ?a17 ?i17 ?l17 ?c17 ?k17 ?a18 ?i18 ?l18 ?c18 ?k18 ?a19 ?i19 ?l19 ?c19 ?k19 ?a20 ?i20 ?l20 ?c20 ?k20 ?a21 ?i21 ?l21 ?c21 ?k21 ?a22 ?i22 ?l22 ?c22 ?k22 ?a23 ?l23 ?c23 ?k23 ?a24 ?l24 ?c24 ?k24 ?a25 ?l25 ?c25 ?k25 ?pg ?hd ?po ?sa ?mk ?kc ?nS ?nR ?nP ?rd ?rg ?ms ?ia ?ic ?it ?im ?sf ?nf ?z0 ?z1 ?z2 ?z3 ?z4 ?z5 ?z6 ?z7 ?z8 ?z9 ?z10
    (case aC => k_is)
    (case a1 => k_is)
    (case l1 => k_is)
    (case c1 => k_is)
    (case k1 => k_is)
    (case a2 => k_is)
    (case l2 => k_is)
    (case c2 => k_is)
    (case k2 => k_is)
    (case a3 => k_is)
    (case l3 => k_is)
    (case c3 => k_is)
    (case k3 => k_is)
    (case a4 => k_is)
    (case l4 => k_is)
    (case c4 => k_is)
    (case k4 => k_is)
    (case a5 => k_is)
    (case l5 => k_is)
    (case c5 => k_is)
    (case k5 => k_is)
    (case a6 => k_is)
    (case l6 => k_is)
    (case c6 => k_is)
    (case k6 => k_is)
    (case a7 => k_is)
    (case i7 => k_is)
    (case l7 => k_is)
    (case c7 => k_is)
    (case k7 => k_is)
    (case a8 => k_is)
    (case i8 => k_is)
    (case l8 => k_is)
    (case c8 => k_is)
    (case k8 => k_is)
    (case a9 => k_is)
    (case l9 => k_is)
    (case c9 => k_is)
    (case k9 => k_is)
    (case a10 => k_is)
    (case l10 => k_is)
    (case c10 => k_is)
    (case k10 => k_is)
    (case a11 => k_is)
    (case l11 => k_is)
    (case c11 => k_is)
    (case k11 => k_is)
    (case a12 => k_is)
    (case l12 => k_is)
    (case c12 => k_is)
    (case k12 => k_is)
    (case a13 => k_is)
    (case l13 => k_is)
    (case c13 => k_is)
    (case k13 => k_is)
    (case a14 => k_is)
    (case l14 => k_is)
    (case c14 => k_is)
    (case k14 => k_is)
    (case a15 => k_is)
    (case i15 => k_is)
    (case l15 => k_is)
    (case c15 => k_is)
    (case k15 => k_is)
    (case a16 => k_is)
    (case i16 => k_is)
    (case l16 => k_is)
    (case c16 => k_is)
    (case k16 => k_is)
    (case a17 => k_is)
    (case i17 => k_is)
    (case l17 => k_is)
    (case c17 => k_is)
    (case k17 => k_is)
    (case a18 => k_is)
    (case i18 => k_is)
    (case l18 => k_is)
    (case c18 => k_is)
    (case k18 => k_is)
    (case a19 => k_is)
    (case i19 => k_is)
    (case l19 => k_is)
    (case c19 => k_is)
    (case k19 => k_is)
    (case a20 => k_is)
    (case i20 => k_is)
    (case l20 => k_is)
    (case c20 => k_is)
    (case k20 => k_is)
    (case a21 => k_is)
    (case i21 => k_is)
    (case l21 => k_is)
    (case c21 => k_is)
    (case k21 => k_is)
    (case a22 => k_is)
    (case i22 => k_is)
    (case l22 => k_is)
    (case c22 => k_is)
    (case k22 => k_is)
    (case a23 => k_is)
    (case l23 => k_is)
    (case c23 => k_is)
    (case k23 => k_is)
    (case a24 => k_is)
    (case l24 => k_is)
    (case c24 => k_is)
    (case k24 => k_is)
    (case a25 => k_is)
    (case l25 => k_is)
    (case c25 => k_is)
    (case k25 => k_is)
    (case pg => k_is)
    (case hd => k_is)
    (case po => k_is)
    (case sa => k_is)
    (case mk => k_is)
    (case kc => k_is)
    (case nS => k_is)
    (case nR => k_is)
    (case nP => k_is)
    (case rd => k_is)
    (case rg => k_is)
    (case ms => k_is)
    (case ia => k_is)
    (case ic => k_is)
    (case it => k_is)
    (case im => k_is)
    (case sf => k_is)
    (case nf => k_is)
    (case z0 => k_is)
    (case z1 => k_is)
    (case z2 => k_is)
    (case z3 => k_is)
    (case z4 => k_is)
    (case z5 => k_is)
    (case z6 => k_is)
    (case z7 => k_is)
    (case z8 => k_is)
    (case z9 => k_is)
    (case z10 => k_is)
