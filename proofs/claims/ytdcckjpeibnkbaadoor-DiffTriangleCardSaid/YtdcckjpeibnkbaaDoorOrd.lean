/-
  A law for regions of whatever order: every operation has a fact of its own that the others keep; no way is branched over. No program is named here.
-/
import Derived.Orders
import Derived.Deep.RegionHeld3
namespace Go.Proofs.YtdcckjpeibnkbaaDoor
open Go

section
variable {P : Program} {ops : Array Oper} {Q : Exit → Act → World → Prop} {Γ : Type}

/-- The frame with the values of some operations in their slots. -/
def fill (a0 : Act) (vs : Nat → Value) : List (Nat × Nat) → Act
  | [] => a0
  | p :: r => (fill a0 vs r).put (some p.1) (vs p.2)
theorem fill_defers (a0 : Act) (vs : Nat → Value) (l : List (Nat × Nat)) : (fill a0 vs l).defers = a0.defers := by
  induction l with
  | nil => rfl
  | cons p r ih => exact ih
theorem fill_size (a0 : Act) (vs : Nat → Value) (l : List (Nat × Nat)) : (fill a0 vs l).tmps.size = a0.tmps.size := by
  induction l with
  | nil => rfl
  | cons p r ih => simp [fill, Act.put, ih]
theorem fill_out (a0 : Act) (vs : Nat → Value) (l : List (Nat × Nat)) (t : Nat) (h : ∀ p ∈ l, p.1 ≠ t) : (fill a0 vs l).tmps[t]? = a0.tmps[t]? := by
  induction l with
  | nil => rfl
  | cons p r ih =>
    simp only [fill, Act.put]
    rw [Array.getElem?_setIfInBounds_ne (h p (by simp))]
    exact ih fun q hq => h q (by simp [hq])
theorem fill_in (a0 : Act) (vs : Nat → Value) (l : List (Nat × Nat)) (t j : Nat) (hj : (t, j) ∈ l) (hu : ∀ p ∈ l, p.1 = t → p.2 = j) (ht : t < a0.tmps.size) : (fill a0 vs l).tmps[t]? = some (vs j) := by
  induction l with
  | nil => cases hj
  | cons p r ih =>
    simp only [fill, Act.put]
    by_cases hp : p.1 = t
    · have := hu p (by simp) hp
      subst hp
      subst this
      rw [Array.getElem?_setIfInBounds_self_of_lt (by rw [fill_size]; exact ht)]
    · rw [Array.getElem?_setIfInBounds_ne hp]
      refine ih ?_ fun q hq => hu q (by simp [hq])
      rcases List.mem_cons.1 hj with e | e
      · exact absurd (by rw [← e]) hp
      · exact e
/-- What the generator must have done right; reckoned by the kernel. -/
def rgChk (ops : Array Oper) (pre : List (List (Nat × Nat))) : Bool :=
  (List.range ops.size).all fun i => match ops[i]?, pre[i]? with
    | some o, some l =>
      (match o.op with | .select .. => false | _ => true) &&
      (o.after.all fun e => !Region.binds .any e || Nat.blt e.on i) &&
      (l.all fun p => (match ops[p.2]? with | some q => q.dst == some p.1 | none => false) && o.after.any fun e => Region.binds .any e && (e.on == p.2 || (pre.getD e.on []).contains p)) &&
      ((o.looksAt ops).all fun t => (List.range ops.size).all fun j => (match ops[j]? with | some q => q.dst != some t | none => true) || l.contains (t, j)) &&
      ((List.range ops.size).all fun j => j == i || (match o.dst with | none => true | some t => match ops[j]? with | some q => q.dst != some t | none => true))
    | _, _ => false
structure RgOk (ops : Array Oper) (pre : List (List (Nat × Nat))) : Prop where
  sel : ∀ {i : Nat} {o : Oper}, ops[i]? = some o → ∀ cs b, o.op ≠ .select cs b
  down : ∀ {i : Nat} {o : Oper}, ops[i]? = some o → ∀ e ∈ o.after, Region.binds .any e = true → e.on < i
  dst : ∀ {i : Nat} {o : Oper}, ops[i]? = some o → ∀ p ∈ pre.getD i [], ∃ q, ops[p.2]? = some q ∧ q.dst = some p.1
  anc : ∀ {i : Nat} {o : Oper}, ops[i]? = some o → ∀ p ∈ pre.getD i [], ∃ e ∈ o.after, Region.binds .any e = true ∧ (e.on = p.2 ∨ p ∈ pre.getD e.on [])
  looks : ∀ {i : Nat} {o : Oper}, ops[i]? = some o → ∀ t ∈ o.looksAt ops, ∀ {j : Nat} {q : Oper}, ops[j]? = some q → q.dst = some t → (t, j) ∈ pre.getD i []
  one : ∀ {i j : Nat} {o q : Oper} {t : Nat}, ops[i]? = some o → ops[j]? = some q → o.dst = some t → q.dst = some t → j = i
theorem rgOk {pre : List (List (Nat × Nat))} (h : rgChk ops pre = true) : RgOk ops pre := by
  have key : ∀ {i : Nat} {o : Oper}, ops[i]? = some o → _ := fun {i o} ho => by
    have hi : i < ops.size := (Array.getElem?_eq_some_iff.1 ho).1
    have h1 := List.all_eq_true.1 h i (List.mem_range.2 hi)
    rw [ho] at h1
    exact h1
  have lt : ∀ {i : Nat} {o : Oper}, ops[i]? = some o → i < ops.size := fun {i o} ho => (Array.getElem?_eq_some_iff.1 ho).1
  refine ⟨fun {i o} ho cs b e => ?_, fun {i o} ho e he hb => ?_, fun {i o} ho p hp => ?_, fun {i o} ho p hp => ?_, fun {i o} ho t ht j q hq hd => ?_, fun {i j o q t} ho hq hd hd' => ?_⟩
  all_goals
    have h1 := key ho
    obtain ⟨l, hl⟩ : ∃ l, pre[i]? = some l := by
      cases hl : pre[i]? with
      | none => rw [hl] at h1; cases h1
      | some l => exact ⟨l, rfl⟩
    rw [hl] at h1
    have hg : pre.getD i [] = l := by rw [List.getD_eq_getElem?_getD, hl]; rfl
    simp only [Bool.and_eq_true] at h1
    obtain ⟨⟨⟨⟨s1, s2⟩, s3⟩, s4⟩, s5⟩ := h1
  · rw [e] at s1; cases s1
  · have := Array.all_eq_true_iff_forall_mem.1 s2 e he
    rw [hb] at this
    simpa [Nat.blt_eq] using this
  · rw [hg] at hp
    have := List.all_eq_true.1 s3 p hp
    rw [Bool.and_eq_true] at this
    cases hq : ops[p.2]? with
    | none => rw [hq] at this; cases this.1
    | some q => rw [hq] at this; exact ⟨q, rfl, by simpa using this.1⟩
  · rw [hg] at hp
    have := List.all_eq_true.1 s3 p hp
    rw [Bool.and_eq_true] at this
    obtain ⟨e, he, h2⟩ := Array.any_eq_true'.1 this.2
    rw [Bool.and_eq_true] at h2
    refine ⟨e, he, h2.1, ?_⟩
    rcases Bool.or_eq_true_iff.1 h2.2 with h3 | h3
    · exact .inl (by simpa using h3)
    · exact .inr (by simpa using h3)
  · rw [hg]
    have := List.all_eq_true.1 (List.all_eq_true.1 s4 t ht) j (List.mem_range.2 (lt hq))
    rw [hq] at this
    simp only [hd, bne_self_eq_false, Bool.false_or] at this
    simpa using this
  · have := List.all_eq_true.1 s5 j (List.mem_range.2 (lt hq))
    rw [hd, hq] at this
    simp only [hd', bne_self_eq_false, Bool.or_false] at this
    simpa using this
/-- The facts of some operations. -/
def Facts (R : Nat → Value → Γ → World → Prop) (vs : Nat → Value) (g : Γ) (w : World) : List (Nat × Nat) → Prop
  | [] => True
  | p :: r => R p.2 (vs p.2) g w ∧ Facts R vs g w r
theorem z1 {α : Type} {x d : α} {l : List α} {n : Nat} : (x :: l).getD (n + 1) d = l.getD n d := List.getD_cons_succ
theorem z2 {α : Type} {x d : α} {l : List α} : (x :: l).getD 0 d = x := List.getD_cons_zero
theorem z3 (l : List Value) (i : Nat) (x : Value) : l.toArray.setIfInBounds i x = (l.set i x).toArray := List.setIfInBounds_toArray ..
theorem z4 (a x : Value) (l : List Value) (n : Nat) : (a :: l).set (n + 1) x = a :: l.set n x := List.set_cons_succ ..
theorem z5 (a x : Value) (l : List Value) : (a :: l).set 0 x = x :: l := List.set_cons_zero ..
theorem facts_of {R : Nat → Value → Γ → World → Prop} {vs : Nat → Value} {g : Γ} {w : World} {l : List (Nat × Nat)} (h : ∀ p ∈ l, R p.2 (vs p.2) g w) : Facts R vs g w l := by
  induction l with
  | nil => trivial
  | cons p r ih => exact ⟨h p (by simp), ih fun q hq => h q (by simp [hq])⟩
/-- One operation, from whatever state it may come up in. -/
def StepAt (P : Program) (ops : Array Oper) (Q : Exit → Act → World → Prop) (a0 : Act) (pre : List (List (Nat × Nat))) (I : Γ → World → Prop) (R : Nat → Value → Γ → World → Prop) (G : Nat → Γ → World → Γ → World → Prop) (F : Nat → Γ → Prop) (o : Oper) (i : Nat) : Prop :=
  ∀ vs g w, I g w → F i g → Facts R vs g w (pre.getD i []) → ∀ K : Act → World → Prop, (∀ v g' w', I g' w' → G i g w g' w' → R i v g' w' → K ((fill a0 vs (pre.getD i [])).put o.dst v) w') →
    if Region.wanted o (yielded ops (fill a0 vs (pre.getD i [])).tmps) = true then Oper.wp P o (fill a0 vs (pre.getD i [])) w K (NoPanic Q) else K ((fill a0 vs (pre.getD i [])).put o.dst undef) w
def StepsL (P : Program) (ops : Array Oper) (Q : Exit → Act → World → Prop) (a0 : Act) (pre : List (List (Nat × Nat))) (I : Γ → World → Prop) (R : Nat → Value → Γ → World → Prop) (G : Nat → Γ → World → Γ → World → Prop) (F : Nat → Γ → Prop) : List Oper → Nat → Prop
  | [], _ => True
  | o :: r, i => StepAt P ops Q a0 pre I R G F o i ∧ StepsL P ops Q a0 pre I R G F r (i + 1)
theorem stepsL_at {a0 : Act} {pre : List (List (Nat × Nat))} {I : Γ → World → Prop} {R : Nat → Value → Γ → World → Prop} {G : Nat → Γ → World → Γ → World → Prop} {F : Nat → Γ → Prop} :
    ∀ {l : List Oper} {k : Nat}, StepsL P ops Q a0 pre I R G F l k → ∀ {i : Nat} {o : Oper}, l[i]? = some o → StepAt P ops Q a0 pre I R G F o (k + i)
  | [], _, _, _, _, h => by simp at h
  | o' :: r, k, hs, 0, o, h => by
    simp at h; subst h; exact hs.1
  | o' :: r, k, hs, i + 1, o, h => by
    have := stepsL_at (l := r) hs.2 (i := i) (o := o) (by simpa using h)
    rw [show k + 1 + i = k + (i + 1) by omega] at this
    exact this
/-- What holds when the operations L have come up. -/
structure Held (ops : Array Oper) (a0 : Act) (pre : List (List (Nat × Nat))) (I : Γ → World → Prop) (R : Nat → Value → Γ → World → Prop) (F : Nat → Γ → Prop) (L : Nat → Bool) (vs : Nat → Value) (g : Γ) (a : Act) (w : World) : Prop where
  inv : I g w
  fact : ∀ i, i < ops.size → L i = true → R i (vs i) g w
  todo : ∀ i, L i = false → F i g
  closed : ∀ i, L i = true → ∀ p ∈ pre.getD i [], L p.2 = true
  defers : a.defers = a0.defers
  size : a.tmps.size = a0.tmps.size
  slot : ∀ t i o, ops[i]? = some o → o.dst = some t → L i = true → t < a0.tmps.size → a.tmps[t]? = some (vs i)
  rest : ∀ t, (∀ i o, ops[i]? = some o → o.dst = some t → L i = false) → a.tmps[t]? = a0.tmps[t]?
theorem put_get {a : Act} {dst : Option Nat} {v : Value} {t : Nat} (h : dst ≠ some t) : (a.put dst v).tmps[t]? = a.tmps[t]? := by
  cases dst with
  | none => rfl
  | some d => simp only [Act.put]; rw [Array.getElem?_setIfInBounds_ne (fun e => h (by rw [e]))]
theorem put_size {a : Act} {dst : Option Nat} {v : Value} : (a.put dst v).tmps.size = a.tmps.size := by cases dst <;> simp [Act.put]
theorem put_put {a : Act} {dst : Option Nat} {v : Value} : (a.put dst v).defers = a.defers := by cases dst <;> rfl
theorem put_inj {a b : Act} {dst : Option Nat} {u v : Value} (hs : a.tmps.size = b.tmps.size) (h : b.put dst u = b.put dst v) : a.put dst u = a.put dst v := by
  cases dst with
  | none => rfl
  | some d =>
    by_cases hd : d < b.tmps.size
    · have h1 := congrArg (fun x : Act => x.tmps[d]?) h
      simp only [Act.put] at h1
      rw [Array.getElem?_setIfInBounds_self_of_lt hd, Array.getElem?_setIfInBounds_self_of_lt hd] at h1
      injection h1 with h1; rw [h1]
    · simp only [Act.put]
      rw [Array.setIfInBounds_eq_of_size_le (by omega), Array.setIfInBounds_eq_of_size_le (by omega)]
theorem held_step {a0 : Act} {pre : List (List (Nat × Nat))} {I : Γ → World → Prop} {R : Nat → Value → Γ → World → Prop} {G : Nat → Γ → World → Γ → World → Prop} {F : Nat → Γ → Prop} (hk : RgOk ops pre)
    (hst : ∀ i j v g w g' w', i ≠ j → i < ops.size → R i v g w → G j g w g' w' → R i v g' w') (hF : ∀ i j g w g' w', i ≠ j → F i g → G j g w g' w' → F i g')
    {i : Nat} {o : Oper} (ho : ops[i]? = some o) (hs : StepAt P ops Q a0 pre I R G F o i) {L : Nat → Bool} {vs : Nat → Value} {g : Γ} {a : Act} {w : World} (h : Held ops a0 pre I R F L vs g a w)
    (hi : L i = false) (hready : ∀ e ∈ o.after, Region.binds .any e = true → L e.on = true) :
    wpOp P ops (NoPanic Q) i (fun a' w' => ∃ vs' g', Held ops a0 pre I R F (fun j => j == i || L j) vs' g' a' w') a w := by
  have hpre : ∀ p ∈ pre.getD i [], L p.2 = true := fun p hp => by
    obtain ⟨e, he, hb, h1⟩ := hk.anc ho p hp
    rcases h1 with h1 | h1
    · rw [← h1]; exact hready e he hb
    · exact h.closed _ (hready e he hb) p h1
  have hlt : ∀ {i : Nat} {o : Oper}, ops[i]? = some o → i < ops.size := fun {i o} ho => (Array.getElem?_eq_some_iff.1 ho).1
  have hfacts : Facts R vs g w (pre.getD i []) := facts_of fun p hp => by
    obtain ⟨q, hq, _⟩ := hk.dst ho p hp
    exact h.fact _ (hlt hq) (hpre p hp)
  -- the two frames agree wherever the operation looks
  have hsame : ∀ t ∈ o.looksAt ops, a.tmps[t]? = (fill a0 vs (pre.getD i [])).tmps[t]? := fun t ht => by
    by_cases hw : ∃ (j : Nat) (q : Oper), ops[j]? = some q ∧ q.dst = some t
    · obtain ⟨j, q, hq, hd⟩ := hw
      have hin := hk.looks ho t ht hq hd
      by_cases hts : t < a0.tmps.size
      · rw [h.slot t j q hq hd (hpre _ hin) hts, fill_in a0 vs _ t j hin (fun p hp he => by
          obtain ⟨q', hq', hd'⟩ := hk.dst ho p hp
          exact hk.one hq hq' hd (by rw [hd', he])) hts]
      · rw [Array.getElem?_eq_none (by rw [h.size]; exact Nat.le_of_not_lt hts), Array.getElem?_eq_none (by rw [fill_size]; exact Nat.le_of_not_lt hts)]
    · rw [h.rest t (fun j q hq hd => absurd ⟨j, q, hq, hd⟩ hw), fill_out a0 vs _ t (fun p hp he => by
        obtain ⟨q', hq', hd'⟩ := hk.dst ho p hp
        exact hw ⟨_, q', hq', by rw [hd', he]⟩)]
  have hev : execOp a.eval o = execOp (fill a0 vs (pre.getD i [])).eval o := execOp_congr o (hk.sel ho) fun x hx => by
    cases x with
    | tmp t =>
      have := hsame t (List.mem_append_left _ (List.mem_filterMap.2 ⟨.tmp t, by simpa using hx, rfl⟩))
      simp only [Act.eval, Array.getD_eq_getD_getElem?, this]
    | _ => rfl
  have hwa : Region.wanted o (yielded ops a.tmps) = Region.wanted o (yielded ops (fill a0 vs (pre.getD i [])).tmps) := by
    unfold Region.wanted
    cases hg : o.guard with
    | none => rfl
    | some gw =>
      obtain ⟨gi, want⟩ := gw
      have hy : yielded ops a.tmps gi = yielded ops (fill a0 vs (pre.getD i [])).tmps gi := by
        unfold yielded
        cases ht : (ops[gi]?).bind (·.dst) with
        | none => rfl
        | some t =>
          have := hsame t (by simp [Oper.looksAt, hg, ht])
          simp only [Option.bind_some, this]
      simp only [hy]
  -- what follows
  have next : ∀ v g' w', I g' w' → G i g w g' w' → R i v g' w' → ∃ vs' g'', Held ops a0 pre I R F (fun j => j == i || L j) vs' g'' (a.put o.dst v) w' := fun v g' w' h1 h2 h3 => by
    refine ⟨fun j => if j = i then v else vs j, g', ⟨h1, fun j hj hl => ?_, fun j hl => ?_, fun j hl p hp => ?_, put_put.trans h.defers, put_size.trans h.size, fun t j q hq hd hl ht => ?_, fun t hall => ?_⟩⟩
    · by_cases e : j = i
      · subst e; simp only [if_true]; exact h3
      · simp only [if_neg e]
        have hl' : L j = true := by simpa [e] using hl
        exact hst j i _ _ _ _ _ e hj (h.fact j hj hl') h2
    · have e : j ≠ i := fun e => by simp [e] at hl
      exact hF j i _ _ _ _ e (h.todo j (by simpa [e] using hl)) h2
    · by_cases e : j = i
      · subst e; simp [hpre p hp]
      · have hl' : L j = true := by simpa [e] using hl
        simp [h.closed j hl' p hp]
    · by_cases e : j = i
      · subst e
        rw [ho] at hq
        injection hq with hq
        subst hq
        simp only [if_true, hd, Act.put]
        rw [Array.getElem?_setIfInBounds_self_of_lt (by rw [h.size]; exact ht)]
      · have hl' : L j = true := by simpa [e] using hl
        simp only [if_neg e]
        rw [put_get (fun hd' => e (hk.one ho hq hd' hd))]
        exact h.slot t j q hq hd hl' ht
    · have hne : o.dst ≠ some t := fun hd => by simpa using hall i o ho hd
      rw [put_get hne]
      exact h.rest t fun j q hq hd => by
        have := hall j q hq hd
        simp at this
        exact this.2
  have hstep := hs vs g w h.inv (h.todo i hi) hfacts (fun a' w' => ∃ v, a' = (fill a0 vs (pre.getD i [])).put o.dst v ∧ ∃ vs' g'', Held ops a0 pre I R F (fun j => j == i || L j) vs' g'' (a.put o.dst v) w')
    (fun v g' w' h1 h2 h3 => ⟨v, rfl, next v g' w' h1 h2 h3⟩)
  have hsz : a.tmps.size = (fill a0 vs (pre.getD i [])).tmps.size := by rw [fill_size]; exact h.size
  unfold wpOp
  simp only [ho]
  rw [hwa]
  split
  · rename_i hw
    rw [if_pos hw] at hstep
    refine .inl ?_
    unfold Oper.wp at *
    rw [hev]
    generalize (execOp (fill a0 vs (pre.getD i [])).eval o).run P w = r at *
    cases r with
    | ok n w' =>
      cases n <;> simp only [Oper.upon] at hstep ⊢
      case value u =>
        obtain ⟨v, e, hv⟩ := hstep
        rw [put_inj hsz e]; exact hv
      case skip =>
        obtain ⟨v, e, hv⟩ := hstep
        rw [put_inj hsz e]; exact hv
      case defer d =>
        obtain ⟨v, e, _⟩ := hstep
        have := congrArg Act.defers e
        rw [put_put, put_put] at this
        simp at this
      case enter f args =>
        refine Calls.mono hstep fun e w'' he => ?_
        cases e with
        | returned u =>
          obtain ⟨v, e, hv⟩ := he
          show ∃ vs' g', Held ops a0 pre I R F (fun j => j == i || L j) vs' g' (a.put o.dst u) w''
          rw [put_inj hsz e]; exact hv
        | panicked c => exact he
        | outgrown => exact he
      case row row args =>
        refine Rows.mono hstep fun u w'' he => ?_
        obtain ⟨v, e, hv⟩ := he
        show ∃ vs' g', Held ops a0 pre I R F (fun j => j == i || L j) vs' g' (a.put o.dst u) w''
        rw [put_inj hsz e]; exact hv
      all_goals exact hstep
    | halt x w' =>
      cases x <;> simp only [Oper.upon] at hstep ⊢ <;> exact hstep
  · rename_i hw
    rw [if_neg hw] at hstep
    obtain ⟨v, e, hv⟩ := hstep
    rw [put_inj hsz e]; exact hv
/-- How many are still to come. -/
def cntF (n : Nat) (L : Nat → Bool) : Nat := (List.range n).countP fun i => !L i
theorem cntF_le {n : Nat} {L L' : Nat → Bool} (h : ∀ i, L i = true → L' i = true) : cntF n L' ≤ cntF n L := by
  refine List.countP_mono_left fun x _ hx => ?_
  cases hL : L x with
  | false => rfl
  | true => simp [h x hL] at hx
theorem cntF_step {n i : Nat} {L : Nat → Bool} (hi : i < n) (h : L i = false) : cntF n (fun j => j == i || L j) + 1 ≤ cntF n L := by
  induction n with
  | zero => omega
  | succ n ih =>
    unfold cntF at *
    rw [List.range_succ, List.countP_append, List.countP_append]
    simp only [List.countP_singleton]
    by_cases e : i = n
    · subst e
      have h2 : List.countP (fun j => !(j == i || L j)) (List.range i) ≤ List.countP (fun j => !L j) (List.range i) := cntF_le (n := i) (L := L) (L' := fun j => j == i || L j) (fun j hj => by simp [hj])
      have e1 : (if (!(i == i || L i)) = true then 1 else 0) = 0 := by simp
      have e2 : (if (!L i) = true then 1 else 0) = 1 := by simp [h]
      rw [e1, e2]
      exact Nat.add_le_add_right h2 1
    · have h2 : List.countP (fun j => !(j == i || L j)) (List.range n) + 1 ≤ List.countP (fun j => !L j) (List.range n) := ih (by omega)
      have e' : (n == i) = false := by rw [beq_eq_false_iff_ne]; omega
      rw [e', Bool.false_or]
      omega
theorem cntF_zero {n : Nat} {L : Nat → Bool} (h : cntF n L = 0) : ∀ i, i < n → L i = true := fun i hi => by
  unfold cntF at h
  rw [List.countP_eq_zero] at h
  have := h i (List.mem_range.2 hi)
  simpa using this
theorem held_done {a0 : Act} {pre : List (List (Nat × Nat))} {I : Γ → World → Prop} {R : Nat → Value → Γ → World → Prop} {F : Nat → Γ → Prop} {all : List (Nat × Nat)} (hk : RgOk ops pre)
    (hall : ∀ i o t, ops[i]? = some o → o.dst = some t → (t, i) ∈ all) (hall2 : ∀ p ∈ all, ∃ o, ops[p.2]? = some o ∧ o.dst = some p.1)
    {L : Nat → Bool} {vs : Nat → Value} {g : Γ} {a : Act} {w : World} (h : Held ops a0 pre I R F L vs g a w) (hL : ∀ i, i < ops.size → L i = true) : a = fill a0 vs all := by
  have hlt : ∀ {i : Nat} {o : Oper}, ops[i]? = some o → i < ops.size := fun {i o} ho => (Array.getElem?_eq_some_iff.1 ho).1
  have e : a.tmps = (fill a0 vs all).tmps := by
    refine Array.ext_getElem? fun t => ?_
    by_cases hw : ∃ (j : Nat) (q : Oper), ops[j]? = some q ∧ q.dst = some t
    · obtain ⟨j, q, hq, hd⟩ := hw
      by_cases hts : t < a0.tmps.size
      · rw [h.slot t j q hq hd (hL j (hlt hq)) hts, fill_in a0 vs _ t j (hall j q t hq hd) (fun p hp he => by
          obtain ⟨q', hq', hd'⟩ := hall2 p hp
          exact hk.one hq hq' hd (by rw [hd', he])) hts]
      · rw [Array.getElem?_eq_none (by rw [h.size]; omega), Array.getElem?_eq_none (by rw [fill_size]; omega)]
    · rw [h.rest t (fun j q hq hd => absurd ⟨j, q, hq, hd⟩ hw), fill_out a0 vs _ t (fun p hp he => by
        obtain ⟨q', hq', hd'⟩ := hall2 p hp
        exact hw ⟨_, q', hq', by rw [hd', he]⟩)]
  have ed : a.defers = (fill a0 vs all).defers := by rw [fill_defers]; exact h.defers
  cases a
  cases hf : fill a0 vs all
  rw [hf] at e ed
  simp only at e ed
  rw [e, ed]
def allChk (ops : Array Oper) (all : List (Nat × Nat)) : Bool :=
  ((List.range ops.size).all fun i => match ops[i]? with | some o => (match o.dst with | some t => all.contains (t, i) | none => true) | none => false) &&
  (all.all fun p => match ops[p.2]? with | some o => o.dst == some p.1 | none => false)
theorem allOk {all : List (Nat × Nat)} (h : allChk ops all = true) : (∀ (i : Nat) (o : Oper) (t : Nat), ops[i]? = some o → o.dst = some t → (t, i) ∈ all) ∧ (∀ p ∈ all, ∃ o, ops[p.2]? = some o ∧ o.dst = some p.1) := by
  unfold allChk at h
  rw [Bool.and_eq_true] at h
  refine ⟨fun i o t ho hd => ?_, fun p hp => ?_⟩
  · have := List.all_eq_true.1 h.1 i (List.mem_range.2 (Array.getElem?_eq_some_iff.1 ho).1)
    rw [ho] at this
    simp only [hd] at this
    simpa using this
  · have := List.all_eq_true.1 h.2 p hp
    cases hq : ops[p.2]? with
    | none => rw [hq] at this; cases this
    | some q => rw [hq] at this; exact ⟨q, rfl, by simpa using this⟩
/-- All that a region asks: its facts, and each operation's step. -/
structure Plan (P : Program) (ops : Array Oper) (Q : Exit → Act → World → Prop) (a0 : Act) (Γ : Type) (g0 : Γ) (w0 : World) where
  pre : List (List (Nat × Nat))
  all : List (Nat × Nat)
  I : Γ → World → Prop
  R : Nat → Value → Γ → World → Prop
  G : Nat → Γ → World → Γ → World → Prop
  F : Nat → Γ → Prop
  chk : rgChk ops pre = true
  chk2 : allChk ops all = true
  st : ∀ i j v g w g' w', i ≠ j → i < ops.size → R i v g w → G j g w g' w' → R i v g' w'
  stF : ∀ i j g w g' w', i ≠ j → F i g → G j g w g' w' → F i g'
  start : I g0 w0
  startF : ∀ i, F i g0
  steps : StepsL P ops Q a0 pre I R G F ops.toList 0
  fin : ∀ vs g w, I g w → (∀ i, i < ops.size → R i (vs i) g w) → Q .normal (fill a0 vs all) w
theorem Plan.held {a0 : Act} {g0 : Γ} {w0 : World} (p : Plan P ops Q a0 Γ g0 w0) {L : Nat → Bool} (hL : ∀ i, L i = false) : Held ops a0 p.pre p.I p.R p.F L (fun _ => undef) g0 a0 w0 :=
  ⟨p.start, fun i _ h => absurd h (by rw [hL i]; decide), fun i _ => p.startF i, fun i h => absurd h (by rw [hL i]; decide), rfl, rfl, fun t i o _ _ h => absurd h (by rw [hL i]; decide), fun _ _ => rfl⟩
theorem Plan.stepAt {a0 : Act} {g0 : Γ} {w0 : World} (p : Plan P ops Q a0 Γ g0 w0) {i : Nat} {o : Oper} (ho : ops[i]? = some o) : StepAt P ops Q a0 p.pre p.I p.R p.G p.F o i := by
  have := stepsL_at p.steps (i := i) (o := o) (by simpa using ho)
  rwa [Nat.zero_add] at this
theorem Plan.any {a0 : Act} {g0 : Γ} {w0 : World} (p : Plan P ops Q a0 Γ g0 w0) : ∀ (fuel : Nat) (listed : Array Bool) (vs : Nat → Value) (g : Γ) (a : Act) (w : World), listed.size = ops.size → cntF ops.size (fun i => listed.getD i false) ≤ fuel →
    Held ops a0 p.pre p.I p.R p.F (fun i => listed.getD i false) vs g a w → wpAny P .any ops (NoPanic Q) fuel listed a w := by
  have hk := rgOk p.chk
  have done : ∀ (listed : Array Bool) (vs : Nat → Value) (g : Γ) (a : Act) (w : World), Held ops a0 p.pre p.I p.R p.F (fun i => listed.getD i false) vs g a w → (∀ i, i < ops.size → listed.getD i false = true) → NoPanic Q .normal a w := fun listed vs g a w h hall => by
    rw [held_done hk (allOk p.chk2).1 (allOk p.chk2).2 h hall]
    exact p.fin vs g w h.inv fun i hi => h.fact i hi (hall i hi)
  have noReady : ∀ listed : Array Bool, listed.size = ops.size → Region.ready .any ops listed = [] → ∀ i, i < ops.size → listed.getD i false = true := fun listed hsz hr i => by
    induction i using Nat.strongRecOn with
    | ind i ih =>
      intro hi
      cases hl : listed.getD i false with
      | true => rfl
      | false =>
        have ho : ops[i]? = some ops[i] := Array.getElem?_eq_getElem hi
        have hm : i ∈ Region.ready .any ops listed := mem_ready.2 ⟨by
          simp [Array.getD_eq_getD_getElem?, Array.getElem?_eq_getElem (show i < listed.size by omega)] at hl ⊢; exact hl, ops[i], ho, fun e he hb => by
          have hd := hk.down ho e he hb
          exact ih e.on hd (by omega)⟩
        rw [hr] at hm; cases hm
  intro fuel
  induction fuel with
  | zero =>
    intro listed vs g a w hsz hc h
    have hall := cntF_zero (Nat.le_zero.1 hc)
    refine ⟨?_, done listed vs g a w h hall⟩
    cases hr : Region.ready .any ops listed with
    | nil => rfl
    | cons x r =>
      have hx : x ∈ Region.ready .any ops listed := by rw [hr]; simp
      obtain ⟨h0, o, ho, _⟩ := mem_ready.1 hx
      have := hall x (Array.getElem?_eq_some_iff.1 ho).1
      have hlt : x < listed.size := by rw [hsz]; exact (Array.getElem?_eq_some_iff.1 ho).1
      simp [Array.getD_eq_getD_getElem?, Array.getElem?_eq_getElem hlt] at h0 this
      rw [h0] at this; cases this
  | succ fuel ih =>
    intro listed vs g a w hsz hc h
    refine ⟨fun hr => done listed vs g a w h (noReady listed hsz hr), fun i hi => ?_⟩
    obtain ⟨h0, o, ho, hall⟩ := mem_ready.1 hi
    have hlt : i < listed.size := by rw [hsz]; exact (Array.getElem?_eq_some_iff.1 ho).1
    have h0' : listed.getD i false = false := by
      simp [Array.getD_eq_getD_getElem?, Array.getElem?_eq_getElem hlt] at h0 ⊢; exact h0
    refine wpOp_mono (fun a' w' hh => ?_) (held_step hk p.st p.stF ho (p.stepAt ho) h h0' hall)
    obtain ⟨vs', g', hh⟩ := hh
    have hfun : (fun j => (listed.setIfInBounds i true).getD j false) = fun j => j == i || listed.getD j false := funext fun j => by
      by_cases e : j = i
      · subst e
        simp [Array.getD_eq_getD_getElem?, Array.getElem?_setIfInBounds_self_of_lt hlt]
      · rw [getD_set_ne false (Ne.symm e)]
        simp [e]
    refine ih _ vs' g' a' w' (by simp [hsz]) ?_ (by rw [hfun]; exact hh)
    rw [hfun]
    have := cntF_step (n := ops.size) (i := i) (L := fun j => listed.getD j false) (by omega) h0'
    omega
/-- A region of whatever order. -/
theorem region_plan {id : Nat} {a0 : Act} {w0 : World} {g0 : Γ} (hm : P.follows .mixedOrders = true) (p : Plan P ops Q a0 Γ g0 w0.drew) : (Code.region id ops true).wp P Q a0 w0 := by
  refine wp_region_noPanic (wp_region_any hm ?_)
  refine p.any ops.size (Array.replicate ops.size false) (fun _ => undef) g0 a0 _ (by simp) ?_ (p.held fun i => ?_)
  · exact Nat.le_trans List.countP_le_length (by simp)
  · by_cases h : i < ops.size
    · simp [Array.getD_eq_getD_getElem?, h]
    · simp [Array.getD_eq_getD_getElem?, h]
/-- A region in the text's order. -/
theorem region_plan0 {id : Nat} {a0 : Act} {w0 : World} {g0 : Γ} (p : Plan P ops Q a0 Γ g0 w0) : (Code.region id ops false).wp P Q a0 w0 := by
  refine wp_region_noPanic (wp_region ?_)
  have hk := rgOk p.chk
  have key : ∀ (m k : Nat) (vs : Nat → Value) (g : Γ) (a : Act) (w : World), k + m = ops.size → Held ops a0 p.pre p.I p.R p.F (fun i => decide (i < k)) vs g a w → wpOps P ops (NoPanic Q) (List.range' k m) a w := by
    intro m
    induction m with
    | zero =>
      intro k vs g a w hkm h
      show Q .normal a w
      rw [held_done hk (allOk p.chk2).1 (allOk p.chk2).2 h (fun i hi => by simp; omega)]
      exact p.fin vs g w h.inv fun i hi => h.fact i hi (by simp; omega)
    | succ m ih =>
      intro k vs g a w hkm h
      rw [List.range'_succ, wpOps_cons]
      have hlt : k < ops.size := by omega
      have ho : ops[k]? = some ops[k] := Array.getElem?_eq_getElem hlt
      refine wpOp_mono (fun a' w' hh => ?_) (held_step hk p.st p.stF ho (p.stepAt ho) h (by simp) (fun e he hb => by
        have := hk.down ho e he hb
        simpa using this))
      obtain ⟨vs', g', hh⟩ := hh
      have hfun : (fun j => decide (j < k + 1)) = fun j => j == k || decide (j < k) := funext fun j => by
        rw [Bool.eq_iff_iff]
        simp
        omega
      exact ih (k + 1) vs' g' a' w' (by omega) (by rw [hfun]; exact hh)
  rw [List.range_eq_range']
  exact key ops.size 0 (fun _ => undef) g0 a0 w0 (by omega) (p.held fun i => by simp)
end
end Go.Proofs.YtdcckjpeibnkbaaDoor
