/-
  Packed texts: Box, SlW, By, Rf, In, Tail, TailM.
-/
import Derived.Orders
import Derived.Deep.RegionHeld3
import Derived.BigQuiet
import Derived.Deep.QuietTactic
import Derived.Lib.Hide
import Derived.Lib.SliceRun
import Derived.Laws.AppendOwnNone
import Derived.RangeFuncBox
import Derived.Lib.SlBytesRow
import Derived.Laws.BytesArg
import Derived.RangeFuncNested
import Derived.RangeFuncBound
import Derived.RangeFuncCalls
import Derived.RangeFuncLeaves
import Derived.Below
import Derived.OrdersIn
import Derived.TacticsIn
import Derived.Test.YtcfdpimpleniaaaDoorP1
/- A law for regions of whatever order: every operation has a fact of its own that the others keep; no way is branched over. No program is named here. -/
namespace Go.Proofs.YtcfdpimpleniaaaDoor
open Go

section
variable {P : Program} {ops : Array Oper} {Q : Exit → Act → World → Prop} {Γ : Type}

/-- The frame with the values of some operations in their slots. -/
def fill (a0 : Act) (vs : Nat → Value) : List (Nat × Nat) → Act
  | [] => a0
  | p :: r => (fill a0 vs r).put (some p.1) (vs p.2)
theorem fill_defers (a0 : Act) (vs : Nat → Value) (l : List (Nat × Nat)) : (fill a0 vs l).defers = a0.defers := by
  induction l with
  | nil => rfl
  | cons p r ih => exact ih
theorem fill_size (a0 : Act) (vs : Nat → Value) (l : List (Nat × Nat)) : (fill a0 vs l).tmps.size = a0.tmps.size := by
  induction l with
  | nil => rfl
  | cons p r ih => simp [fill, Act.put, ih]
theorem fill_out (a0 : Act) (vs : Nat → Value) (l : List (Nat × Nat)) (t : Nat) (h : ∀ p ∈ l, p.1 ≠ t) : (fill a0 vs l).tmps[t]? = a0.tmps[t]? := by
  induction l with
  | nil => rfl
  | cons p r ih =>
    simp only [fill, Act.put]
    rw [Array.getElem?_setIfInBounds_ne (h p (by simp))]
    exact ih fun q hq => h q (by simp [hq])
theorem fill_in (a0 : Act) (vs : Nat → Value) (l : List (Nat × Nat)) (t j : Nat) (hj : (t, j) ∈ l) (hu : ∀ p ∈ l, p.1 = t → p.2 = j) (ht : t < a0.tmps.size) : (fill a0 vs l).tmps[t]? = some (vs j) := by
  induction l with
  | nil => cases hj
  | cons p r ih =>
    simp only [fill, Act.put]
    by_cases hp : p.1 = t
    · have := hu p (by simp) hp
      subst hp
      subst this
      rw [Array.getElem?_setIfInBounds_self_of_lt (by rw [fill_size]; exact ht)]
    · rw [Array.getElem?_setIfInBounds_ne hp]
      refine ih ?_ fun q hq => hu q (by simp [hq])
      rcases List.mem_cons.1 hj with e | e
      · exact absurd (by rw [← e]) hp
      · exact e
/-- What the generator must have done right; reckoned by the kernel. -/
def rgChk (ops : Array Oper) (pre : List (List (Nat × Nat))) : Bool :=
  (List.range ops.size).all fun i => match ops[i]?, pre[i]? with
    | some o, some l =>
      (match o.op with | .select .. => false | _ => true) &&
      (o.after.all fun e => !Region.binds .any e || Nat.blt e.on i) &&
      (l.all fun p => (match ops[p.2]? with | some q => q.dst == some p.1 | none => false) && o.after.any fun e => Region.binds .any e && (e.on == p.2 || (pre.getD e.on []).contains p)) &&
      ((o.looksAt ops).all fun t => (List.range ops.size).all fun j => (match ops[j]? with | some q => q.dst != some t | none => true) || l.contains (t, j)) &&
      ((List.range ops.size).all fun j => j == i || (match o.dst with | none => true | some t => match ops[j]? with | some q => q.dst != some t | none => true))
    | _, _ => false
structure RgOk (ops : Array Oper) (pre : List (List (Nat × Nat))) : Prop where
  sel : ∀ {i : Nat} {o : Oper}, ops[i]? = some o → ∀ cs b, o.op ≠ .select cs b
  down : ∀ {i : Nat} {o : Oper}, ops[i]? = some o → ∀ e ∈ o.after, Region.binds .any e = true → e.on < i
  dst : ∀ {i : Nat} {o : Oper}, ops[i]? = some o → ∀ p ∈ pre.getD i [], ∃ q, ops[p.2]? = some q ∧ q.dst = some p.1
  anc : ∀ {i : Nat} {o : Oper}, ops[i]? = some o → ∀ p ∈ pre.getD i [], ∃ e ∈ o.after, Region.binds .any e = true ∧ (e.on = p.2 ∨ p ∈ pre.getD e.on [])
  looks : ∀ {i : Nat} {o : Oper}, ops[i]? = some o → ∀ t ∈ o.looksAt ops, ∀ {j : Nat} {q : Oper}, ops[j]? = some q → q.dst = some t → (t, j) ∈ pre.getD i []
  one : ∀ {i j : Nat} {o q : Oper} {t : Nat}, ops[i]? = some o → ops[j]? = some q → o.dst = some t → q.dst = some t → j = i
theorem rgOk {pre : List (List (Nat × Nat))} (h : rgChk ops pre = true) : RgOk ops pre := by
  have key : ∀ {i : Nat} {o : Oper}, ops[i]? = some o → _ := fun {i o} ho => by
    have hi : i < ops.size := (Array.getElem?_eq_some_iff.1 ho).1
    have h1 := List.all_eq_true.1 h i (List.mem_range.2 hi)
    rw [ho] at h1
    exact h1
  have lt : ∀ {i : Nat} {o : Oper}, ops[i]? = some o → i < ops.size := fun {i o} ho => (Array.getElem?_eq_some_iff.1 ho).1
  refine ⟨fun {i o} ho cs b e => ?_, fun {i o} ho e he hb => ?_, fun {i o} ho p hp => ?_, fun {i o} ho p hp => ?_, fun {i o} ho t ht j q hq hd => ?_, fun {i j o q t} ho hq hd hd' => ?_⟩
  all_goals
    have h1 := key ho
    obtain ⟨l, hl⟩ : ∃ l, pre[i]? = some l := by
      cases hl : pre[i]? with
      | none => rw [hl] at h1; cases h1
      | some l => exact ⟨l, rfl⟩
    rw [hl] at h1
    have hg : pre.getD i [] = l := by rw [List.getD_eq_getElem?_getD, hl]; rfl
    simp only [Bool.and_eq_true] at h1
    obtain ⟨⟨⟨⟨s1, s2⟩, s3⟩, s4⟩, s5⟩ := h1
  · rw [e] at s1; cases s1
  · have := Array.all_eq_true_iff_forall_mem.1 s2 e he
    rw [hb] at this
    simpa [Nat.blt_eq] using this
  · rw [hg] at hp
    have := List.all_eq_true.1 s3 p hp
    rw [Bool.and_eq_true] at this
    cases hq : ops[p.2]? with
    | none => rw [hq] at this; cases this.1
    | some q => rw [hq] at this; exact ⟨q, rfl, by simpa using this.1⟩
  · rw [hg] at hp
    have := List.all_eq_true.1 s3 p hp
    rw [Bool.and_eq_true] at this
    obtain ⟨e, he, h2⟩ := Array.any_eq_true'.1 this.2
    rw [Bool.and_eq_true] at h2
    refine ⟨e, he, h2.1, ?_⟩
    rcases Bool.or_eq_true_iff.1 h2.2 with h3 | h3
    · exact .inl (by simpa using h3)
    · exact .inr (by simpa using h3)
  · rw [hg]
    have := List.all_eq_true.1 (List.all_eq_true.1 s4 t ht) j (List.mem_range.2 (lt hq))
    rw [hq] at this
    simp only [hd, bne_self_eq_false, Bool.false_or] at this
    simpa using this
  · have := List.all_eq_true.1 s5 j (List.mem_range.2 (lt hq))
    rw [hd, hq] at this
    simp only [hd', bne_self_eq_false, Bool.or_false] at this
    simpa using this
/-- The facts of some operations. -/
def Facts (R : Nat → Value → Γ → World → Prop) (vs : Nat → Value) (g : Γ) (w : World) : List (Nat × Nat) → Prop
  | [] => True
  | p :: r => R p.2 (vs p.2) g w ∧ Facts R vs g w r
theorem z1 {α : Type} {x d : α} {l : List α} {n : Nat} : (x :: l).getD (n + 1) d = l.getD n d := List.getD_cons_succ
theorem z2 {α : Type} {x d : α} {l : List α} : (x :: l).getD 0 d = x := List.getD_cons_zero
theorem z3 (l : List Value) (i : Nat) (x : Value) : l.toArray.setIfInBounds i x = (l.set i x).toArray := List.setIfInBounds_toArray ..
theorem z4 (a x : Value) (l : List Value) (n : Nat) : (a :: l).set (n + 1) x = a :: l.set n x := List.set_cons_succ ..
theorem z5 (a x : Value) (l : List Value) : (a :: l).set 0 x = x :: l := List.set_cons_zero ..
theorem facts_of {R : Nat → Value → Γ → World → Prop} {vs : Nat → Value} {g : Γ} {w : World} {l : List (Nat × Nat)} (h : ∀ p ∈ l, R p.2 (vs p.2) g w) : Facts R vs g w l := by
  induction l with
  | nil => trivial
  | cons p r ih => exact ⟨h p (by simp), ih fun q hq => h q (by simp [hq])⟩
/-- One operation, from whatever state it may come up in. -/
def StepAt (P : Program) (ops : Array Oper) (Q : Exit → Act → World → Prop) (a0 : Act) (pre : List (List (Nat × Nat))) (I : Γ → World → Prop) (R : Nat → Value → Γ → World → Prop) (G : Nat → Γ → World → Γ → World → Prop) (F : Nat → Γ → Prop) (o : Oper) (i : Nat) : Prop :=
  ∀ vs g w, I g w → F i g → Facts R vs g w (pre.getD i []) → ∀ K : Act → World → Prop, (∀ v g' w', I g' w' → G i g w g' w' → R i v g' w' → K ((fill a0 vs (pre.getD i [])).put o.dst v) w') →
    if Region.wanted o (yielded ops (fill a0 vs (pre.getD i [])).tmps) = true then Oper.wp P o (fill a0 vs (pre.getD i [])) w K (NoPanic Q) else K ((fill a0 vs (pre.getD i [])).put o.dst undef) w
def StepsL (P : Program) (ops : Array Oper) (Q : Exit → Act → World → Prop) (a0 : Act) (pre : List (List (Nat × Nat))) (I : Γ → World → Prop) (R : Nat → Value → Γ → World → Prop) (G : Nat → Γ → World → Γ → World → Prop) (F : Nat → Γ → Prop) : List Oper → Nat → Prop
  | [], _ => True
  | o :: r, i => StepAt P ops Q a0 pre I R G F o i ∧ StepsL P ops Q a0 pre I R G F r (i + 1)
theorem stepsL_at {a0 : Act} {pre : List (List (Nat × Nat))} {I : Γ → World → Prop} {R : Nat → Value → Γ → World → Prop} {G : Nat → Γ → World → Γ → World → Prop} {F : Nat → Γ → Prop} :
    ∀ {l : List Oper} {k : Nat}, StepsL P ops Q a0 pre I R G F l k → ∀ {i : Nat} {o : Oper}, l[i]? = some o → StepAt P ops Q a0 pre I R G F o (k + i)
  | [], _, _, _, _, h => by simp at h
  | o' :: r, k, hs, 0, o, h => by
    simp at h; subst h; exact hs.1
  | o' :: r, k, hs, i + 1, o, h => by
    have := stepsL_at (l := r) hs.2 (i := i) (o := o) (by simpa using h)
    rw [show k + 1 + i = k + (i + 1) by omega] at this
    exact this
/-- What holds when the operations L have come up. -/
structure Held (ops : Array Oper) (a0 : Act) (pre : List (List (Nat × Nat))) (I : Γ → World → Prop) (R : Nat → Value → Γ → World → Prop) (F : Nat → Γ → Prop) (L : Nat → Bool) (vs : Nat → Value) (g : Γ) (a : Act) (w : World) : Prop where
  inv : I g w
  fact : ∀ i, i < ops.size → L i = true → R i (vs i) g w
  todo : ∀ i, L i = false → F i g
  closed : ∀ i, L i = true → ∀ p ∈ pre.getD i [], L p.2 = true
  defers : a.defers = a0.defers
  size : a.tmps.size = a0.tmps.size
  slot : ∀ t i o, ops[i]? = some o → o.dst = some t → L i = true → t < a0.tmps.size → a.tmps[t]? = some (vs i)
  rest : ∀ t, (∀ i o, ops[i]? = some o → o.dst = some t → L i = false) → a.tmps[t]? = a0.tmps[t]?
theorem put_get {a : Act} {dst : Option Nat} {v : Value} {t : Nat} (h : dst ≠ some t) : (a.put dst v).tmps[t]? = a.tmps[t]? := by
  cases dst with
  | none => rfl
  | some d => simp only [Act.put]; rw [Array.getElem?_setIfInBounds_ne (fun e => h (by rw [e]))]
theorem put_size {a : Act} {dst : Option Nat} {v : Value} : (a.put dst v).tmps.size = a.tmps.size := by cases dst <;> simp [Act.put]
theorem put_put {a : Act} {dst : Option Nat} {v : Value} : (a.put dst v).defers = a.defers := by cases dst <;> rfl
theorem put_inj {a b : Act} {dst : Option Nat} {u v : Value} (hs : a.tmps.size = b.tmps.size) (h : b.put dst u = b.put dst v) : a.put dst u = a.put dst v := by
  cases dst with
  | none => rfl
  | some d =>
    by_cases hd : d < b.tmps.size
    · have h1 := congrArg (fun x : Act => x.tmps[d]?) h
      simp only [Act.put] at h1
      rw [Array.getElem?_setIfInBounds_self_of_lt hd, Array.getElem?_setIfInBounds_self_of_lt hd] at h1
      injection h1 with h1; rw [h1]
    · simp only [Act.put]
      rw [Array.setIfInBounds_eq_of_size_le (by omega), Array.setIfInBounds_eq_of_size_le (by omega)]
theorem held_step {a0 : Act} {pre : List (List (Nat × Nat))} {I : Γ → World → Prop} {R : Nat → Value → Γ → World → Prop} {G : Nat → Γ → World → Γ → World → Prop} {F : Nat → Γ → Prop} (hk : RgOk ops pre)
    (hst : ∀ i j v g w g' w', i ≠ j → i < ops.size → R i v g w → G j g w g' w' → R i v g' w') (hF : ∀ i j g w g' w', i ≠ j → F i g → G j g w g' w' → F i g')
    {i : Nat} {o : Oper} (ho : ops[i]? = some o) (hs : StepAt P ops Q a0 pre I R G F o i) {L : Nat → Bool} {vs : Nat → Value} {g : Γ} {a : Act} {w : World} (h : Held ops a0 pre I R F L vs g a w)
    (hi : L i = false) (hready : ∀ e ∈ o.after, Region.binds .any e = true → L e.on = true) :
    wpOp P ops (NoPanic Q) i (fun a' w' => ∃ vs' g', Held ops a0 pre I R F (fun j => j == i || L j) vs' g' a' w') a w := by
  have hpre : ∀ p ∈ pre.getD i [], L p.2 = true := fun p hp => by
    obtain ⟨e, he, hb, h1⟩ := hk.anc ho p hp
    rcases h1 with h1 | h1
    · rw [← h1]; exact hready e he hb
    · exact h.closed _ (hready e he hb) p h1
  have hlt : ∀ {i : Nat} {o : Oper}, ops[i]? = some o → i < ops.size := fun {i o} ho => (Array.getElem?_eq_some_iff.1 ho).1
  have hfacts : Facts R vs g w (pre.getD i []) := facts_of fun p hp => by
    obtain ⟨q, hq, _⟩ := hk.dst ho p hp
    exact h.fact _ (hlt hq) (hpre p hp)
  -- the two frames agree wherever the operation looks
  have hsame : ∀ t ∈ o.looksAt ops, a.tmps[t]? = (fill a0 vs (pre.getD i [])).tmps[t]? := fun t ht => by
    by_cases hw : ∃ (j : Nat) (q : Oper), ops[j]? = some q ∧ q.dst = some t
    · obtain ⟨j, q, hq, hd⟩ := hw
      have hin := hk.looks ho t ht hq hd
      by_cases hts : t < a0.tmps.size
      · rw [h.slot t j q hq hd (hpre _ hin) hts, fill_in a0 vs _ t j hin (fun p hp he => by
          obtain ⟨q', hq', hd'⟩ := hk.dst ho p hp
          exact hk.one hq hq' hd (by rw [hd', he])) hts]
      · rw [Array.getElem?_eq_none (by rw [h.size]; exact Nat.le_of_not_lt hts), Array.getElem?_eq_none (by rw [fill_size]; exact Nat.le_of_not_lt hts)]
    · rw [h.rest t (fun j q hq hd => absurd ⟨j, q, hq, hd⟩ hw), fill_out a0 vs _ t (fun p hp he => by
        obtain ⟨q', hq', hd'⟩ := hk.dst ho p hp
        exact hw ⟨_, q', hq', by rw [hd', he]⟩)]
  have hev : execOp a.eval o = execOp (fill a0 vs (pre.getD i [])).eval o := execOp_congr o (hk.sel ho) fun x hx => by
    cases x with
    | tmp t =>
      have := hsame t (List.mem_append_left _ (List.mem_filterMap.2 ⟨.tmp t, by simpa using hx, rfl⟩))
      simp only [Act.eval, Array.getD_eq_getD_getElem?, this]
    | _ => rfl
  have hwa : Region.wanted o (yielded ops a.tmps) = Region.wanted o (yielded ops (fill a0 vs (pre.getD i [])).tmps) := by
    unfold Region.wanted
    cases hg : o.guard with
    | none => rfl
    | some gw =>
      obtain ⟨gi, want⟩ := gw
      have hy : yielded ops a.tmps gi = yielded ops (fill a0 vs (pre.getD i [])).tmps gi := by
        unfold yielded
        cases ht : (ops[gi]?).bind (·.dst) with
        | none => rfl
        | some t =>
          have := hsame t (by simp [Oper.looksAt, hg, ht])
          simp only [Option.bind_some, this]
      simp only [hy]
  -- what follows
  have next : ∀ v g' w', I g' w' → G i g w g' w' → R i v g' w' → ∃ vs' g'', Held ops a0 pre I R F (fun j => j == i || L j) vs' g'' (a.put o.dst v) w' := fun v g' w' h1 h2 h3 => by
    refine ⟨fun j => if j = i then v else vs j, g', ⟨h1, fun j hj hl => ?_, fun j hl => ?_, fun j hl p hp => ?_, put_put.trans h.defers, put_size.trans h.size, fun t j q hq hd hl ht => ?_, fun t hall => ?_⟩⟩
    · by_cases e : j = i
      · subst e; simp only [if_true]; exact h3
      · simp only [if_neg e]
        have hl' : L j = true := by simpa [e] using hl
        exact hst j i _ _ _ _ _ e hj (h.fact j hj hl') h2
    · have e : j ≠ i := fun e => by simp [e] at hl
      exact hF j i _ _ _ _ e (h.todo j (by simpa [e] using hl)) h2
    · by_cases e : j = i
      · subst e; simp [hpre p hp]
      · have hl' : L j = true := by simpa [e] using hl
        simp [h.closed j hl' p hp]
    · by_cases e : j = i
      · subst e
        rw [ho] at hq
        injection hq with hq
        subst hq
        simp only [if_true, hd, Act.put]
        rw [Array.getElem?_setIfInBounds_self_of_lt (by rw [h.size]; exact ht)]
      · have hl' : L j = true := by simpa [e] using hl
        simp only [if_neg e]
        rw [put_get (fun hd' => e (hk.one ho hq hd' hd))]
        exact h.slot t j q hq hd hl' ht
    · have hne : o.dst ≠ some t := fun hd => by simpa using hall i o ho hd
      rw [put_get hne]
      exact h.rest t fun j q hq hd => by
        have := hall j q hq hd
        simp at this
        exact this.2
  have hstep := hs vs g w h.inv (h.todo i hi) hfacts (fun a' w' => ∃ v, a' = (fill a0 vs (pre.getD i [])).put o.dst v ∧ ∃ vs' g'', Held ops a0 pre I R F (fun j => j == i || L j) vs' g'' (a.put o.dst v) w')
    (fun v g' w' h1 h2 h3 => ⟨v, rfl, next v g' w' h1 h2 h3⟩)
  have hsz : a.tmps.size = (fill a0 vs (pre.getD i [])).tmps.size := by rw [fill_size]; exact h.size
  unfold wpOp
  simp only [ho]
  rw [hwa]
  split
  · rename_i hw
    rw [if_pos hw] at hstep
    refine .inl ?_
    unfold Oper.wp at *
    rw [hev]
    generalize (execOp (fill a0 vs (pre.getD i [])).eval o).run P w = r at *
    cases r with
    | ok n w' =>
      cases n <;> simp only [Oper.upon] at hstep ⊢
      case value u =>
        obtain ⟨v, e, hv⟩ := hstep
        rw [put_inj hsz e]; exact hv
      case skip =>
        obtain ⟨v, e, hv⟩ := hstep
        rw [put_inj hsz e]; exact hv
      case defer d =>
        obtain ⟨v, e, _⟩ := hstep
        have := congrArg Act.defers e
        rw [put_put, put_put] at this
        simp at this
      case enter f args =>
        refine Calls.mono hstep fun e w'' he => ?_
        cases e with
        | returned u =>
          obtain ⟨v, e, hv⟩ := he
          show ∃ vs' g', Held ops a0 pre I R F (fun j => j == i || L j) vs' g' (a.put o.dst u) w''
          rw [put_inj hsz e]; exact hv
        | panicked c => exact he
        | outgrown => exact he
      case row row args =>
        refine Rows.mono hstep fun u w'' he => ?_
        obtain ⟨v, e, hv⟩ := he
        show ∃ vs' g', Held ops a0 pre I R F (fun j => j == i || L j) vs' g' (a.put o.dst u) w''
        rw [put_inj hsz e]; exact hv
      all_goals exact hstep
    | halt x w' =>
      cases x <;> simp only [Oper.upon] at hstep ⊢ <;> exact hstep
  · rename_i hw
    rw [if_neg hw] at hstep
    obtain ⟨v, e, hv⟩ := hstep
    rw [put_inj hsz e]; exact hv
/-- How many are still to come. -/
def cntF (n : Nat) (L : Nat → Bool) : Nat := (List.range n).countP fun i => !L i
theorem cntF_le {n : Nat} {L L' : Nat → Bool} (h : ∀ i, L i = true → L' i = true) : cntF n L' ≤ cntF n L := by
  refine List.countP_mono_left fun x _ hx => ?_
  cases hL : L x with
  | false => rfl
  | true => simp [h x hL] at hx
theorem cntF_step {n i : Nat} {L : Nat → Bool} (hi : i < n) (h : L i = false) : cntF n (fun j => j == i || L j) + 1 ≤ cntF n L := by
  induction n with
  | zero => omega
  | succ n ih =>
    unfold cntF at *
    rw [List.range_succ, List.countP_append, List.countP_append]
    simp only [List.countP_singleton]
    by_cases e : i = n
    · subst e
      have h2 : List.countP (fun j => !(j == i || L j)) (List.range i) ≤ List.countP (fun j => !L j) (List.range i) := cntF_le (n := i) (L := L) (L' := fun j => j == i || L j) (fun j hj => by simp [hj])
      have e1 : (if (!(i == i || L i)) = true then 1 else 0) = 0 := by simp
      have e2 : (if (!L i) = true then 1 else 0) = 1 := by simp [h]
      rw [e1, e2]
      exact Nat.add_le_add_right h2 1
    · have h2 : List.countP (fun j => !(j == i || L j)) (List.range n) + 1 ≤ List.countP (fun j => !L j) (List.range n) := ih (by omega)
      have e' : (n == i) = false := by rw [beq_eq_false_iff_ne]; omega
      rw [e', Bool.false_or]
      omega
theorem cntF_zero {n : Nat} {L : Nat → Bool} (h : cntF n L = 0) : ∀ i, i < n → L i = true := fun i hi => by
  unfold cntF at h
  rw [List.countP_eq_zero] at h
  have := h i (List.mem_range.2 hi)
  simpa using this
theorem held_done {a0 : Act} {pre : List (List (Nat × Nat))} {I : Γ → World → Prop} {R : Nat → Value → Γ → World → Prop} {F : Nat → Γ → Prop} {all : List (Nat × Nat)} (hk : RgOk ops pre)
    (hall : ∀ i o t, ops[i]? = some o → o.dst = some t → (t, i) ∈ all) (hall2 : ∀ p ∈ all, ∃ o, ops[p.2]? = some o ∧ o.dst = some p.1)
    {L : Nat → Bool} {vs : Nat → Value} {g : Γ} {a : Act} {w : World} (h : Held ops a0 pre I R F L vs g a w) (hL : ∀ i, i < ops.size → L i = true) : a = fill a0 vs all := by
  have hlt : ∀ {i : Nat} {o : Oper}, ops[i]? = some o → i < ops.size := fun {i o} ho => (Array.getElem?_eq_some_iff.1 ho).1
  have e : a.tmps = (fill a0 vs all).tmps := by
    refine Array.ext_getElem? fun t => ?_
    by_cases hw : ∃ (j : Nat) (q : Oper), ops[j]? = some q ∧ q.dst = some t
    · obtain ⟨j, q, hq, hd⟩ := hw
      by_cases hts : t < a0.tmps.size
      · rw [h.slot t j q hq hd (hL j (hlt hq)) hts, fill_in a0 vs _ t j (hall j q t hq hd) (fun p hp he => by
          obtain ⟨q', hq', hd'⟩ := hall2 p hp
          exact hk.one hq hq' hd (by rw [hd', he])) hts]
      · rw [Array.getElem?_eq_none (by rw [h.size]; omega), Array.getElem?_eq_none (by rw [fill_size]; omega)]
    · rw [h.rest t (fun j q hq hd => absurd ⟨j, q, hq, hd⟩ hw), fill_out a0 vs _ t (fun p hp he => by
        obtain ⟨q', hq', hd'⟩ := hall2 p hp
        exact hw ⟨_, q', hq', by rw [hd', he]⟩)]
  have ed : a.defers = (fill a0 vs all).defers := by rw [fill_defers]; exact h.defers
  cases a
  cases hf : fill a0 vs all
  rw [hf] at e ed
  simp only at e ed
  rw [e, ed]
def allChk (ops : Array Oper) (all : List (Nat × Nat)) : Bool :=
  ((List.range ops.size).all fun i => match ops[i]? with | some o => (match o.dst with | some t => all.contains (t, i) | none => true) | none => false) &&
  (all.all fun p => match ops[p.2]? with | some o => o.dst == some p.1 | none => false)
theorem allOk {all : List (Nat × Nat)} (h : allChk ops all = true) : (∀ (i : Nat) (o : Oper) (t : Nat), ops[i]? = some o → o.dst = some t → (t, i) ∈ all) ∧ (∀ p ∈ all, ∃ o, ops[p.2]? = some o ∧ o.dst = some p.1) := by
  unfold allChk at h
  rw [Bool.and_eq_true] at h
  refine ⟨fun i o t ho hd => ?_, fun p hp => ?_⟩
  · have := List.all_eq_true.1 h.1 i (List.mem_range.2 (Array.getElem?_eq_some_iff.1 ho).1)
    rw [ho] at this
    simp only [hd] at this
    simpa using this
  · have := List.all_eq_true.1 h.2 p hp
    cases hq : ops[p.2]? with
    | none => rw [hq] at this; cases this
    | some q => rw [hq] at this; exact ⟨q, rfl, by simpa using this⟩
/-- All that a region asks: its facts, and each operation's step. -/
structure Plan (P : Program) (ops : Array Oper) (Q : Exit → Act → World → Prop) (a0 : Act) (Γ : Type) (g0 : Γ) (w0 : World) where
  pre : List (List (Nat × Nat))
  all : List (Nat × Nat)
  I : Γ → World → Prop
  R : Nat → Value → Γ → World → Prop
  G : Nat → Γ → World → Γ → World → Prop
  F : Nat → Γ → Prop
  chk : rgChk ops pre = true
  chk2 : allChk ops all = true
  st : ∀ i j v g w g' w', i ≠ j → i < ops.size → R i v g w → G j g w g' w' → R i v g' w'
  stF : ∀ i j g w g' w', i ≠ j → F i g → G j g w g' w' → F i g'
  start : I g0 w0
  startF : ∀ i, F i g0
  steps : StepsL P ops Q a0 pre I R G F ops.toList 0
  fin : ∀ vs g w, I g w → (∀ i, i < ops.size → R i (vs i) g w) → Q .normal (fill a0 vs all) w
theorem Plan.held {a0 : Act} {g0 : Γ} {w0 : World} (p : Plan P ops Q a0 Γ g0 w0) {L : Nat → Bool} (hL : ∀ i, L i = false) : Held ops a0 p.pre p.I p.R p.F L (fun _ => undef) g0 a0 w0 :=
  ⟨p.start, fun i _ h => absurd h (by rw [hL i]; decide), fun i _ => p.startF i, fun i h => absurd h (by rw [hL i]; decide), rfl, rfl, fun t i o _ _ h => absurd h (by rw [hL i]; decide), fun _ _ => rfl⟩
theorem Plan.stepAt {a0 : Act} {g0 : Γ} {w0 : World} (p : Plan P ops Q a0 Γ g0 w0) {i : Nat} {o : Oper} (ho : ops[i]? = some o) : StepAt P ops Q a0 p.pre p.I p.R p.G p.F o i := by
  have := stepsL_at p.steps (i := i) (o := o) (by simpa using ho)
  rwa [Nat.zero_add] at this
theorem Plan.any {a0 : Act} {g0 : Γ} {w0 : World} (p : Plan P ops Q a0 Γ g0 w0) : ∀ (fuel : Nat) (listed : Array Bool) (vs : Nat → Value) (g : Γ) (a : Act) (w : World), listed.size = ops.size → cntF ops.size (fun i => listed.getD i false) ≤ fuel →
    Held ops a0 p.pre p.I p.R p.F (fun i => listed.getD i false) vs g a w → wpAny P .any ops (NoPanic Q) fuel listed a w := by
  have hk := rgOk p.chk
  have done : ∀ (listed : Array Bool) (vs : Nat → Value) (g : Γ) (a : Act) (w : World), Held ops a0 p.pre p.I p.R p.F (fun i => listed.getD i false) vs g a w → (∀ i, i < ops.size → listed.getD i false = true) → NoPanic Q .normal a w := fun listed vs g a w h hall => by
    rw [held_done hk (allOk p.chk2).1 (allOk p.chk2).2 h hall]
    exact p.fin vs g w h.inv fun i hi => h.fact i hi (hall i hi)
  have noReady : ∀ listed : Array Bool, listed.size = ops.size → Region.ready .any ops listed = [] → ∀ i, i < ops.size → listed.getD i false = true := fun listed hsz hr i => by
    induction i using Nat.strongRecOn with
    | ind i ih =>
      intro hi
      cases hl : listed.getD i false with
      | true => rfl
      | false =>
        have ho : ops[i]? = some ops[i] := Array.getElem?_eq_getElem hi
        have hm : i ∈ Region.ready .any ops listed := mem_ready.2 ⟨by
          simp [Array.getD_eq_getD_getElem?, Array.getElem?_eq_getElem (show i < listed.size by omega)] at hl ⊢; exact hl, ops[i], ho, fun e he hb => by
          have hd := hk.down ho e he hb
          exact ih e.on hd (by omega)⟩
        rw [hr] at hm; cases hm
  intro fuel
  induction fuel with
  | zero =>
    intro listed vs g a w hsz hc h
    have hall := cntF_zero (Nat.le_zero.1 hc)
    refine ⟨?_, done listed vs g a w h hall⟩
    cases hr : Region.ready .any ops listed with
    | nil => rfl
    | cons x r =>
      have hx : x ∈ Region.ready .any ops listed := by rw [hr]; simp
      obtain ⟨h0, o, ho, _⟩ := mem_ready.1 hx
      have := hall x (Array.getElem?_eq_some_iff.1 ho).1
      have hlt : x < listed.size := by rw [hsz]; exact (Array.getElem?_eq_some_iff.1 ho).1
      simp [Array.getD_eq_getD_getElem?, Array.getElem?_eq_getElem hlt] at h0 this
      rw [h0] at this; cases this
  | succ fuel ih =>
    intro listed vs g a w hsz hc h
    refine ⟨fun hr => done listed vs g a w h (noReady listed hsz hr), fun i hi => ?_⟩
    obtain ⟨h0, o, ho, hall⟩ := mem_ready.1 hi
    have hlt : i < listed.size := by rw [hsz]; exact (Array.getElem?_eq_some_iff.1 ho).1
    have h0' : listed.getD i false = false := by
      simp [Array.getD_eq_getD_getElem?, Array.getElem?_eq_getElem hlt] at h0 ⊢; exact h0
    refine wpOp_mono (fun a' w' hh => ?_) (held_step hk p.st p.stF ho (p.stepAt ho) h h0' hall)
    obtain ⟨vs', g', hh⟩ := hh
    have hfun : (fun j => (listed.setIfInBounds i true).getD j false) = fun j => j == i || listed.getD j false := funext fun j => by
      by_cases e : j = i
      · subst e
        simp [Array.getD_eq_getD_getElem?, Array.getElem?_setIfInBounds_self_of_lt hlt]
      · rw [getD_set_ne false (Ne.symm e)]
        simp [e]
    refine ih _ vs' g' a' w' (by simp [hsz]) ?_ (by rw [hfun]; exact hh)
    rw [hfun]
    have := cntF_step (n := ops.size) (i := i) (L := fun j => listed.getD j false) (by omega) h0'
    omega
end
end Go.Proofs.YtcfdpimpleniaaaDoor
/- Boxes that a region makes and stores into once, beside calls that make memory: what its operations keep. No program is named here. -/
namespace Go.Proofs.YtcfdpimpleniaaaDoor
open Go.RowKit
set_option maxRecDepth 100000
set_option linter.unusedVariables false
set_option linter.unusedSimpArgs false

/-- Which block an operation has made. -/
abbrev Gh := Nat → Option Nat
/-- No box of the region. -/
def Off (g : Gh) (b : Nat) : Prop := ∀ i, g i ≠ some b
/-- Where a region stands: the world at the function's beginning, that at the region's, and the boxes that stood already (1000 and on: the results'; 2000 and on: the callers'). -/
structure Ctx where
  W0 : World
  W : World
  g0 : Gh
/-- The world at hand. -/
structure RInv (c : Ctx) (g : Gh) (w : World) : Prop where
  below : Below c.W0.heap.size c.W0 w
  size : c.W.heap.size ≤ w.heap.size
  old : ∀ b, b < c.W.heap.size → Off g b → w.heap[b]? = c.W.heap[b]?
  keep0 : ∀ i k, c.g0 i = some k → g i = some k
  new : ∀ i k, g i = some k → c.g0 i = some k ∨ c.W.heap.size ≤ k
  lt : ∀ i k, g i = some k → k < w.heap.size
  base : ∀ i k, i < 2000 → g i = some k → c.W0.heap.size ≤ k
  inj : ∀ i j k, g i = some k → g j = some k → i = j
  box0 : ∀ i k n, c.g0 i = some k → HasBox c.W k n → HasBox w k n
/-- What operation j does; st tells which operation stores into a box. -/
structure Step (st : Nat → Option Nat) (j : Nat) (g : Gh) (w : World) (g' : Gh) (w' : World) : Prop where
  size : w.heap.size ≤ w'.heap.size
  frame : ∀ k, k < w.heap.size → (∀ i, st i = some j → g i ≠ some k) → w'.heap[k]? = w.heap[k]?
  keep : ∀ i k, g i = some k → g' i = some k
  new : ∀ i k, g' i = some k → g i = some k ∨ (i = j ∧ w.heap.size ≤ k)
  box : ∀ i k n, g i = some k → HasBox w k n → HasBox w' k n
  inj : ∀ i i' k, g i = some k → g i' = some k → i = i'
/-- What the boxes at a region's beginning must meet. -/
structure Ctx.Ok (c : Ctx) : Prop where
  below : Below c.W0.heap.size c.W0 c.W
  lt : ∀ i k, c.g0 i = some k → k < c.W.heap.size
  base : ∀ i k, i < 2000 → c.g0 i = some k → c.W0.heap.size ≤ k
  inj : ∀ i j k, c.g0 i = some k → c.g0 j = some k → i = j
  free : ∀ i, i < 1000 → c.g0 i = none
theorem RInv.start {c : Ctx} (h : c.Ok) : RInv c c.g0 c.W.drew := ⟨below_drewN' h.below 1, Nat.le_refl _, fun _ _ _ => rfl, fun _ _ h => h, fun _ _ h => .inl h, h.lt, h.base, h.inj, fun _ _ _ _ h => h⟩
/-- A cell that stood at the region's beginning, off the boxes. -/
theorem RInv.cell {c : Ctx} {g : Gh} {w : World} (hI : RInv c g w) {p : Addr} {v : Value} (h : c.W.cell? p = some v) (ho : Off c.g0 p.block) : w.cell? p = some v := by
  have hlt := World.block_lt_of_cell? c.W p h
  exact (World.cell?_of_block (hI.old p.block hlt (fun i e => by
    rcases hI.new i _ e with h1 | h1
    · exact ho i h1
    · omega))).trans h
/-- The next region's beginning. -/
theorem RInv.next {w0 W : World} {g0 g : Gh} {w : World} (hI : RInv ⟨w0, W, g0⟩ g w) (h : Ctx.Ok ⟨w0, W, g0⟩) : Ctx.Ok ⟨w0, w, g0⟩ :=
  ⟨hI.below, fun i k e => Nat.lt_of_lt_of_le (h.lt i k e) hI.size, h.base, h.inj, h.free⟩
theorem Step.off {st : Nat → Option Nat} {j : Nat} {g : Gh} {w : World} {g' : Gh} {w' : World} (hs : Step st j g w g' w') {b : Nat} (hb : b < w.heap.size) (h : Off g b) : Off g' b := fun i e => by
  rcases hs.new i b e with h1 | ⟨_, h1⟩
  · exact h i h1
  · omega
theorem Step.block {st : Nat → Option Nat} {j : Nat} {g : Gh} {w : World} {g' : Gh} {w' : World} (hs : Step st j g w g' w') {b : Nat} (hb : b < w.heap.size) (h : Off g b) : w'.heap[b]? = w.heap[b]? :=
  hs.frame b hb fun i _ => h i
theorem SlR.step {st : Nat → Option Nat} {j : Nat} {g : Gh} {w : World} {g' : Gh} {w' : World} {k : IntKind} {A : Option Addr} {ds : List Int} (h : SlR w (Off g) k A ds) (hs : Step st j g w g' w') : SlR w' (Off g') k A ds := fun hl => by
  obtain ⟨b, off, e, hS, hc⟩ := h hl
  have hlt := lt_of_cell (hc 0 _ (List.getElem?_eq_getElem hl))
  exact ⟨b, off, e, hs.off hlt hS, fun i d hd => (World.cell?_of_block (hs.block hlt hS)).trans (hc i d hd)⟩
theorem SlR.off {w w' : World} {c : Ctx} {g : Gh} {k : IntKind} {A : Option Addr} {ds : List Int} (h : SlR w' (fun b => w.heap.size ≤ b) k A ds) (hI : RInv c g w) : SlR w' (Off g) k A ds :=
  h.imp fun b hb i e => by have := hI.lt i b e; omega
/-- A box that was made. -/
def PtrR (i n : Nat) (v : Value) (g : Gh) (w : World) : Prop := ∃ k, v = .pointer (some ⟨k, 0, none⟩) ∧ g i = some k ∧ HasBox w k n
theorem PtrR.step {st : Nat → Option Nat} {j i n : Nat} {v : Value} {g : Gh} {w : World} {g' : Gh} {w' : World} (h : PtrR i n v g w) (hs : Step st j g w g' w') : PtrR i n v g' w' := by
  obtain ⟨k, e, hk, hb⟩ := h
  exact ⟨k, e, hs.keep i k hk, hs.box i k n hk hb⟩
/-- The cells of a box that was stored into. -/
def CellsAt (w : World) (k : Nat) (cs : List Value) : Prop := ∀ o v, cs[o]? = some v → w.cell? ⟨k, o, none⟩ = some v
theorem CellsAt.step {st : Nat → Option Nat} {j s i k : Nat} {cs : List Value} {g : Gh} {w : World} {g' : Gh} {w' : World} (h : CellsAt w k cs) (hs : Step st j g w g' w') (hk : g i = some k) (hlt : k < w.heap.size) (hst : st i = some s) (hj : s ≠ j) : CellsAt w' k cs := fun o v hv =>
  (World.cell?_of_block (hs.frame k hlt (fun i' h' e => by
    have := hs.inj i i' k hk e
    subst this
    rw [hst] at h'
    injection h' with h'
    exact hj h'))).trans (h o v hv)
theorem Step.refl {st : Nat → Option Nat} {j : Nat} {c : Ctx} {g : Gh} {w : World} (hI : RInv c g w) : Step st j g w g w := ⟨Nat.le_refl _, fun _ _ _ => rfl, fun _ _ h => h, fun _ _ h => .inl h, fun _ _ _ _ h => h, hI.inj⟩
theorem Step.call {st : Nat → Option Nat} {j : Nat} {c : Ctx} {g : Gh} {w w' : World} (hI : RInv c g w) (hb : Below w.heap.size w w') : Step st j g w g w' :=
  ⟨hb.size, fun k hk _ => hb.block k hk, fun _ _ h => h, fun _ _ h => .inl h, fun _ _ _ _ h => h.next hb, hI.inj⟩
theorem RInv.call {c : Ctx} {g : Gh} {w w' : World} (hI : RInv c g w) (hb : Below w.heap.size w w') : RInv c g w' :=
  ⟨hI.below.trans (hb.mono hI.below.size), Nat.le_trans hI.size hb.size, fun b h ho => (hb.block b (Nat.lt_of_lt_of_le h hI.size)).trans (hI.old b h ho), hI.keep0, hI.new, fun i k h => Nat.lt_of_lt_of_le (hI.lt i k h) hb.size, hI.base, hI.inj, fun i k n h hx => (hI.box0 i k n h hx).next hb⟩
/-- The boxes with one more. -/
def more (g : Gh) (j k : Nat) : Gh := fun i => if i = j then some k else g i
theorem Step.alloc {st : Nat → Option Nat} {j : Nat} {c : Ctx} {g : Gh} {w : World} (hI : RInv c g w) (hF : g j = none) (o : Obj) : Step st j g w (more g j w.heap.size) (w.alloc o) :=
  ⟨by simp, fun k hk _ => heap_alloc_old w o hk, fun i k h => by
    unfold more
    rw [if_neg (fun e => by subst e; rw [hF] at h; cases h)]; exact h, fun i k h => by
    unfold more at h
    split at h
    · rename_i e; injection h with h; exact .inr ⟨e, by omega⟩
    · exact .inl h, fun _ _ _ _ h => h.next ((Below.refl _ _).alloc (Nat.le_refl _) o), hI.inj⟩
theorem RInv.alloc {c : Ctx} {g : Gh} {w : World} (hI : RInv c g w) (j : Nat) (hF : g j = none) (o : Obj) : RInv c (more g j w.heap.size) (w.alloc o) :=
  ⟨hI.below.alloc hI.below.size o, by have := hI.size; simp; omega, fun b hb ho => (heap_alloc_old w o (Nat.lt_of_lt_of_le hb hI.size)).trans (hI.old b hb (fun i e => ho i (by
      unfold more
      rw [if_neg (fun e' => by subst e'; rw [hF] at e; cases e)]; exact e))), fun i k h => by
    unfold more
    have := hI.keep0 i k h
    rw [if_neg (fun e' => by subst e'; rw [hF] at this; cases this)]; exact this, fun i k h => by
    unfold more at h
    split at h
    · injection h with h; subst h; exact .inr hI.size
    · exact hI.new i k h, fun i k h => by
    unfold more at h
    split at h
    · injection h with h; subst h; simp
    · have := hI.lt i k h; simp; omega, fun i k hi h => by
    unfold more at h
    split at h
    · injection h with h; subst h; exact hI.below.size
    · exact hI.base i k hi h, fun i i' k h h' => by
    unfold more at h h'
    split at h <;> split at h'
    · rename_i e e'; rw [e, e']
    · injection h with h; have := hI.lt i' k h'; omega
    · injection h' with h'; have := hI.lt i k h; omega
    · exact hI.inj i i' k h h', fun i k n h hx => (hI.box0 i k n h hx).next ((Below.refl _ _).alloc (Nat.le_refl _) o)⟩
/-- Only block k has changed, and what was a box is one. -/
structure Touch (w : World) (k : Nat) (w' : World) : Prop where
  os : w'.os = w.os
  tape : w'.tape = w.tape
  output : w'.output = w.output
  size : w'.heap.size = w.heap.size
  block : ∀ b, b ≠ k → w'.heap[b]? = w.heap[b]?
  box : ∀ b n, HasBox w b n → HasBox w' b n
theorem Touch.refl (w : World) (k : Nat) : Touch w k w := ⟨rfl, rfl, rfl, rfl, fun _ _ => rfl, fun _ _ h => h⟩
theorem Touch.set {w w' : World} {k : Nat} (h : Touch w k w') (o : Nat) (v : Value) : Touch w k (w'.setCell ⟨k, o, none⟩ v) := by
  have hb := (Below.refl 0 w').setCell (p := ⟨k, o, none⟩) (Nat.zero_le _) v
  exact ⟨hb.os.trans h.os, hb.tape.trans h.tape, hb.output.trans h.output, by
    have := World.size_setCell w' ⟨k, o, none⟩ v
    rw [this]; exact h.size, fun b hne => (Below.heap_setCell w' ⟨k, o, none⟩ v b hne).trans (h.block b hne), fun b n hx => (h.box b n hx).set_ _ _⟩
theorem Step.store {st : Nat → Option Nat} {s i k : Nat} {c : Ctx} {g : Gh} {w w' : World} (hI : RInv c g w) (hst : st i = some s) (hk : g i = some k) (ht : Touch w k w') : Step st s g w g w' :=
  ⟨by rw [ht.size]; exact Nat.le_refl _, fun b hb h => ht.block b (fun e => h i hst (by rw [e]; exact hk)), fun _ _ h => h, fun _ _ h => .inl h, fun _ b n _ h => ht.box b n h, hI.inj⟩
theorem RInv.store {i k : Nat} {c : Ctx} {g : Gh} {w w' : World} (hI : RInv c g w) (hi : i < 2000) (hk : g i = some k) (ht : Touch w k w') : RInv c g w' :=
  ⟨⟨ht.os.trans hI.below.os, ht.tape.trans hI.below.tape, ht.output.trans hI.below.output, by rw [ht.size]; exact hI.below.size, fun b hb => (ht.block b (fun e => by have := hI.base i k hi hk; omega)).trans (hI.below.block b hb)⟩,
    by rw [ht.size]; exact hI.size, fun b hb ho => (ht.block b (fun e => ho i (by rw [e]; exact hk))).trans (hI.old b hb ho), hI.keep0, hI.new, fun i k h => by (rw [ht.size]; exact hI.lt i k h), hI.base, hI.inj, fun i b n h hx => ht.box b n (hI.box0 i b n h hx)⟩
/-- Memory off the boxes is as it was. -/
def Keeps (g : Gh) (w : World) (g' : Gh) (w' : World) : Prop := ∀ b, b < w.heap.size → Off g b → Off g' b ∧ w'.heap[b]? = w.heap[b]?
theorem Step.keeps {st : Nat → Option Nat} {j : Nat} {g : Gh} {w : World} {g' : Gh} {w' : World} (hs : Step st j g w g' w') : Keeps g w g' w' := fun _ hb h => ⟨hs.off hb h, hs.block hb h⟩
/-- From the region's beginning to here. -/
theorem RInv.keeps {c : Ctx} {g : Gh} {w : World} (hI : RInv c g w) : Keeps c.g0 c.W g w := fun b hb h => by
  have ho : Off g b := fun i e => by
    rcases hI.new i b e with h1 | h1
    · exact h i h1
    · omega
  exact ⟨ho, hI.old b hb ho⟩
/-- To the next region's beginning. -/
theorem RInv.back {c : Ctx} {g : Gh} {w : World} (hI : RInv c g w) : Keeps g w c.g0 w := fun _ _ h => ⟨fun i e => h i (hI.keep0 i _ e), rfl⟩
theorem Keeps.trans {g g' g'' : Gh} {w w' w'' : World} (h : Keeps g w g' w') (hs : w.heap.size ≤ w'.heap.size) (k : Keeps g' w' g'' w'') : Keeps g w g'' w'' := fun b hb ho => by
  obtain ⟨h1, h2⟩ := h b hb ho
  obtain ⟨k1, k2⟩ := k b (by omega) h1
  exact ⟨k1, k2.trans h2⟩
theorem Touch.keeps {w w' : World} {k i : Nat} {g : Gh} (ht : Touch w k w') (hk : g i = some k) : Keeps g w g w' := fun b _ h => ⟨h, ht.block b (fun e => h i (by rw [e]; exact hk))⟩
theorem SlR.keeps {g : Gh} {w : World} {g' : Gh} {w' : World} {k : IntKind} {A : Option Addr} {ds : List Int} (h : SlR w (Off g) k A ds) (hs : Keeps g w g' w') : SlR w' (Off g') k A ds := fun hl => by
  obtain ⟨b, off, e, hS, hc⟩ := h hl
  have hlt := lt_of_cell (hc 0 _ (List.getElem?_eq_getElem hl))
  exact ⟨b, off, e, (hs b hlt hS).1, fun i d hd => (World.cell?_of_block (hs b hlt hS).2).trans (hc i d hd)⟩
/-- A fact that only leans on memory off the boxes. -/
def Firm (R : Value → Gh → World → Prop) : Prop := ∀ v g w g' w', R v g w → Keeps g w g' w' → R v g' w'
/-- The cells of a value. -/
def cellsOf : Value → List Value
  | .agg xs => xs.toList
  | v => [v]
/-- A box that holds a value with a fact. -/
def BoxR (i : Nat) (R : Value → Gh → World → Prop) (g : Gh) (w : World) : Prop := ∃ k u, g i = some k ∧ k < w.heap.size ∧ CellsAt w k (cellsOf u) ∧ R u g w
theorem BoxR.step {st : Nat → Option Nat} {j s i : Nat} {R : Value → Gh → World → Prop} {g : Gh} {w : World} {g' : Gh} {w' : World} (hR : Firm R) (h : BoxR i R g w) (hs : Step st j g w g' w') (hst : st i = some s) (hj : s ≠ j) : BoxR i R g' w' := by
  obtain ⟨k, u, hk, hlt, h1, h2⟩ := h
  exact ⟨k, u, hs.keep i k hk, Nat.lt_of_lt_of_le hlt hs.size, h1.step hs hk hlt hst hj, hR _ _ _ _ _ h2 hs.keeps⟩
section
variable {P : Program} {ops : Array Oper} {Q : Exit → Act → World → Prop}
end
end Go.Proofs.YtcfdpimpleniaaaDoor
namespace Go.Proofs.YtcfdpimpleniaaaDoor
open Go.RowKit
set_option maxRecDepth 100000
set_option linter.unusedVariables false
set_option linter.unusedSimpArgs false

theorem one_cells (k : IntKind) (l : List Int) : ∀ u ∈ l.map (Value.int k), u.oneCell' = true := fun u hu => by
  obtain ⟨d, _, rfl⟩ := List.mem_map.1 hu
  rfl
theorem SlR.nilOf {w : World} {S : Nat → Prop} {k : IntKind} {ds : List Int} (h : SlR w S k none ds) : ds = [] := by
  rcases ds with _ | ⟨d, ds⟩
  · rfl
  · obtain ⟨b, o, e, _⟩ := h (by simp); cases e
theorem SlR.cells_ {w : World} {S : Nat → Prop} {k : IntKind} {ad : Addr} {xs : List Int} (h : SlR w S k (some ad) xs) (j : Nat) (u : Value) (hj : (xs.map (Value.int k))[j]? = some u) : w.cell? (ad.add j) = some u := by
  rw [List.getElem?_map] at hj
  cases hd : xs[j]? with
  | none => rw [hd] at hj; cases hj
  | some d =>
    rw [hd] at hj; injection hj with hj; subst hj
    obtain ⟨b, o, e, _, hc⟩ := h (by have := (List.getElem?_eq_some_iff.1 hd).1; omega)
    injection e with e
    subst e
    rw [addr_add0]; exact hc j d hd
theorem OwnK.keep_ {w w' : World} {base : Nat} {e : TypeId} {k : IntKind} {v : Value} {os : List Int} (h : OwnK w base e k v os) (hk : ∀ g, v.ownBlock = some g → w'.heap[g]? = w.heap[g]?) : OwnK w' base e k v os := by
  obtain ⟨hl, h⟩ := h
  refine ⟨hl, ?_⟩
  rcases h with h | ⟨g, cap, cur, rfl, hb, hg, rest⟩
  · exact .inl h
  · exact .inr ⟨g, cap, cur, rfl, hb, (hk g rfl).trans hg, rest⟩
theorem OwnK.lt_ {w : World} {base : Nat} {e : TypeId} {k : IntKind} {v : Value} {os : List Int} (h : OwnK w base e k v os) : ∀ g, v.ownBlock = some g → base ≤ g ∧ g < w.heap.size := World.ownsRow.lt h
end Go.Proofs.YtcfdpimpleniaaaDoor
namespace Go.Proofs.YtcfdpimpleniaaaDoor
open Go.RowKit
set_option maxRecDepth 100000
set_option linter.unusedVariables false
set_option linter.unusedSimpArgs false

theorem infoB : (Tryd.prog.info? 5).map (fun i => (i.zero, i.size, i.bytes)) = some (some (.int .u8 0), 1, 1) := by kernel_rfl
theorem OwnK.base {w : World} {base b2 : Nat} {e : TypeId} {k : IntKind} {v : Value} {os : List Int} (h : OwnK w base e k v os) (hb : b2 ≤ base) : OwnK w b2 e k v os := by
  unfold OwnK at h ⊢
  refine ⟨h.1, ?_⟩
  rcases h.2 with ⟨h1, h2⟩ | ⟨g, cap, cur, h1, h2, h3⟩
  · exact .inl ⟨h1, h2⟩
  · exact .inr ⟨g, cap, cur, h1, Nat.le_trans hb h2, h3⟩
/-- A literal list of bytes, new. -/
theorem own_lit {w : World} (ns : List Int) (hm : ns.length ≤ 1000000) (B : Nat) (hB : B ≤ w.heap.size) : OwnK (w.alloc (.cells (ns.map (Value.int .u8)).toArray 5)) B 5 .u8 (.slice (some ⟨w.heap.size, 0, none⟩) ns.length ns.length) ns := by
  unfold OwnK
  refine ⟨by simp, .inr ⟨w.heap.size, ns.length, (ns.map (Value.int .u8)).toArray, rfl, hB, heap_alloc_new w _, Nat.le_refl _, by unfold maxLen; omega, by simp, by simp only [List.size_toArray, Nat.mul_one]; exact List.take_of_length_le (by simp)⟩⟩
/-- append of bytes onto a row of the call's own. -/
theorem wp_app_b {ops : Array Oper} {rest : List Oper} {o : Oper} {a : Act} {Q : Exit → Act → World → Prop} {w : World} (hgd : o.guard = none) (s x : Operand)
    (ho : o.op = .call { callee := .builtin .append, args := #[s, x], argTypes := #[31, 31] }) (base : Nat) (v : Value) (ys : List Int) (hs : a.eval s = v) (hown : OwnK w base 5 .u8 v ys)
    (A : Option Addr) (n c : Nat) (xs : List Int) (S : Nat → Prop) (hx : a.eval x = .slice A n c) (hn : n = xs.length) (hl : SlR w S .u8 A xs) (hc : A = none → c = 0) (h1 : ys.length + xs.length ≤ 140737488355328) (hbase : base ≤ w.heap.size)
    (h : ∀ v' w', OwnK w' base 5 .u8 v' (ys ++ xs) → Below base w w' → wpList Tryd.prog ops Q rest (a.put o.dst v') w') : wpList Tryd.prog ops Q (o :: rest) a w := by
  subst hn
  obtain ⟨i0, hi, hz0, hz1, hz2⟩ := info_parts infoB
  have key : ∀ v' w', w'.ownsRow base 5 1 v' (ys.length + xs.length) (ys.map (Value.int .u8) ++ xs.map (Value.int .u8)) → OwnK w' base 5 .u8 v' (ys ++ xs) := fun v' w' hr => by
    unfold OwnK; rw [List.length_append, List.map_append]; exact hr
  cases A with
  | some ad => exact wpList_append_own _ hgd s x 31 ho base 5 i0 (.int .u8 0) 1 1 Tryd.underlying31 hi hz0 hz1 hz2 rfl (by decide) v ys.length (ys.map (Value.int .u8)) hs hown ad xs.length c (xs.map (Value.int .u8)) hx (by simp) (fun j u hj => hl.cells_ j u hj) (one_cells _ _) (by unfold maxLen; omega) (by omega) hbase fun v' w' k1 k2 _ => h v' w' (key v' w' k1) ((Below.refl _ _).grown k2 hbase (fun g hg => (World.ownsRow.lt hown g hg).1))
  | none =>
    obtain rfl := hl.nilOf
    obtain rfl := hc rfl
    exact wpList_append_own_none hgd s x 31 ho base 5 i0 1 Tryd.underlying31 hi v ys.length (ys.map (Value.int .u8)) hs hown hx (h v w (by simpa using hown) (Below.refl _ _))
/-- append of a literal list of bytes onto a row of the call's own. -/
theorem wp_app_lit {ops : Array Oper} {rest : List Oper} {o : Oper} {a : Act} {Q : Exit → Act → World → Prop} {w : World} (hgd : o.guard = none) (s x : Operand)
    (ho : o.op = .call { callee := .builtin .append, args := #[s, x], argTypes := #[31, 31] }) (base : Nat) (v : Value) (ys : List Int) (hs : a.eval s = v) (hown : OwnK w base 5 .u8 v ys)
    (xs : List Int) (n c : Nat) (hx : a.eval x = .slice (some ⟨w.heap.size, 0, none⟩) n c) (hn : n = xs.length) (h1 : ys.length + xs.length ≤ 140737488355328) (hbase : base ≤ w.heap.size)
    (h : ∀ v' w', OwnK w' base 5 .u8 v' (ys ++ xs) → Below base w w' → wpList Tryd.prog ops Q rest (a.put o.dst v') w') : wpList Tryd.prog ops Q (o :: rest) a (w.alloc (.cells (xs.map (Value.int .u8)).toArray 5)) := by
  have hb : Below w.heap.size w (w.alloc (.cells (xs.map (Value.int .u8)).toArray 5)) := (Below.refl _ _).alloc (Nat.le_refl _) _
  refine wp_app_b hgd s x ho base v ys hs (World.ownsRow.alloc hown _) (some ⟨w.heap.size, 0, none⟩) n c xs (fun _ => True) hx hn ?_ (by simp) h1 (by simp; omega) fun v' w' k1 k2 => h v' w' k1 ((hb.mono hbase).trans k2)
  intro hl
  refine ⟨w.heap.size, 0, rfl, trivial, fun j d hd => ?_⟩
  have h2 := heap_alloc_new w (.cells (xs.map (Value.int .u8)).toArray 5)
  have h3 : (xs.map (Value.int .u8))[j]? = some (.int .u8 d) := by rw [List.getElem?_map, hd]; rfl
  rw [Nat.zero_add]
  unfold World.cell?
  rw [h2]
  simpa using h3
end Go.Proofs.YtcfdpimpleniaaaDoor
namespace Go.Proofs.YtcfdpimpleniaaaDoor
open Go.RowKit
set_option maxRecDepth 100000
set_option linter.unusedVariables false
set_option linter.unusedSimpArgs false

/-- The loop's two records lie as they lay. -/
def Same2 (B : Nat) (W W' : World) : Prop := W'.heap[B]? = W.heap[B]? ∧ W'.heap[B + 1]? = W.heap[B + 1]?
theorem Same2.refl (B : Nat) (W : World) : Same2 B W W := ⟨rfl, rfl⟩
theorem Same2.trans {B : Nat} {W1 W2 W3 : World} (h : Same2 B W1 W2) (k : Same2 B W2 W3) : Same2 B W1 W3 := ⟨k.1.trans h.1, k.2.trans h.2⟩
variable {F : Fence} {n : Nat} {P : Program}
end Go.Proofs.YtcfdpimpleniaaaDoor
namespace Go.Proofs.YtcfdpimpleniaaaDoor
open Go.RowKit
set_option maxRecDepth 100000
set_option linter.unusedVariables false
set_option linter.unusedSimpArgs false

/-- Only blocks that T admits have changed. -/
structure Moved (T : Nat → Prop) (w w' : World) : Prop where
  os : w'.os = w.os
  tape : w'.tape = w.tape
  output : w'.output = w.output
  size : w.heap.size ≤ w'.heap.size
  block : ∀ g, g < w.heap.size → ¬ T g → w'.heap[g]? = w.heap[g]?
theorem Moved.below {B : Nat} {T : Nat → Prop} {a w w' : World} (h : Moved T w w') (hb : Below B a w) (hT : ∀ g, T g → B ≤ g) (hB : B ≤ w.heap.size) : Below B a w' :=
  ⟨h.os.trans hb.os, h.tape.trans hb.tape, h.output.trans hb.output, Nat.le_trans hb.size h.size, fun k hk => (h.block k (by omega) (fun e => by have := hT k e; omega)).trans (hb.block k hk)⟩
theorem Moved.refl (T : Nat → Prop) (w : World) : Moved T w w := ⟨rfl, rfl, rfl, Nat.le_refl _, fun _ _ _ => rfl⟩
theorem Moved.trans {T : Nat → Prop} {a b c : World} (h : Moved T a b) (k : Moved T b c) : Moved T a c :=
  ⟨k.os.trans h.os, k.tape.trans h.tape, k.output.trans h.output, Nat.le_trans h.size k.size, fun g hg hT => (k.block g (Nat.lt_of_lt_of_le hg h.size) hT).trans (h.block g hg hT)⟩
theorem Moved.cell {T : Nat → Prop} {w w' : World} (h : Moved T w w') {p : Addr} (hlt : p.block < w.heap.size) (hT : ¬ T p.block) : w'.cell? p = w.cell? p := World.cell?_of_block (h.block p.block hlt hT)
theorem Moved.imp {T U : Nat → Prop} {w w' : World} (h : Moved T w w') (hTU : ∀ g, T g → U g) : Moved U w w' := ⟨h.os, h.tape, h.output, h.size, fun g hg hU => h.block g hg fun hT => hU (hTU g hT)⟩
theorem Moved.of_below {T : Nat → Prop} {w w' : World} (h : Below w.heap.size w w') : Moved T w w' := ⟨h.os, h.tape, h.output, h.size, fun g hg _ => h.block g hg⟩
/-- The blocks that a loop may change: those that T admits and that stood at w, and those from B on. -/
def Star (w : World) (T : Nat → Prop) (B : Nat) : Nat → Prop := fun g => (T g ∧ g < w.heap.size) ∨ B ≤ g
/-- Within a function that began at w and has boxes of its own below B. -/
structure In (w : World) (T : Nat → Prop) (B : Nat) (bx : List (Nat × Value × TypeId)) (W : World) : Prop where
  moved : Moved T w W
  low : w.heap.size ≤ B
  size : B ≤ W.heap.size
  box : ∀ p ∈ bx, w.heap.size ≤ p.1 ∧ p.1 < B ∧ W.heap[p.1]? = some (.cells #[p.2.1] p.2.2 (0, 0))
theorem Star.not {w : World} {T : Nat → Prop} {B g : Nat} (h1 : w.heap.size ≤ g) (h2 : g < B) : ¬ Star w T B g := fun h => by rcases h with ⟨_, h⟩ | h <;> omega
theorem In.step {w : World} {T U : Nat → Prop} {B : Nat} {bx : List (Nat × Value × TypeId)} {W W' : World} (h : In w U B bx W) (hTU : ∀ g, T g → U g) (hm : Moved (Star w T B) W W') : In w U B bx W' := by
  have hlow := h.low
  have hsz := h.size
  refine ⟨⟨hm.os.trans h.moved.os, hm.tape.trans h.moved.tape, hm.output.trans h.moved.output, Nat.le_trans h.moved.size hm.size, fun g hg hT => ?_⟩, h.low, Nat.le_trans h.size hm.size, fun p hp => ?_⟩
  · exact (hm.block g (by omega) (fun e => by rcases e with ⟨e, _⟩ | e; exact hT (hTU _ e); omega)).trans (h.moved.block g hg hT)
  · obtain ⟨h1, h2, h3⟩ := h.box p hp
    exact ⟨h1, h2, (hm.block p.1 (by omega) (Star.not h1 h2)).trans h3⟩
theorem In.below {w : World} {T : Nat → Prop} {B : Nat} {bx : List (Nat × Value × TypeId)} {W W' : World} (h : In w T B bx W) (hb : Below W.heap.size W W') : In w T B bx W' := h.step (T := fun _ => False) (fun _ h => h.elim) (.of_below hb)
theorem In.put {w : World} {T : Nat → Prop} {B : Nat} {bx : List (Nat × Value × TypeId)} {W : World} (h : In w T B bx W) {l : Nat} (hl : w.heap.size ≤ l) (hn : ∀ p ∈ bx, p.1 ≠ l) (o : Obj) : In w T B bx (W.putObj l o) :=
  ⟨⟨h.moved.os, h.moved.tape, h.moved.output, by rw [World.putObj_size]; exact h.moved.size, fun g hg hT => (World.putObj_heap_other (by omega)).trans (h.moved.block g hg hT)⟩, h.low, by rw [World.putObj_size]; exact h.size,
    fun p hp => ⟨(h.box p hp).1, (h.box p hp).2.1, (World.putObj_heap_other (hn p hp)).trans (h.box p hp).2.2⟩⟩
theorem cells_one {w : World} {b : Nat} {u : Value} {t : TypeId} (h : w.heap[b]? = some (.cells #[u] t (0, 0))) : w.cell? ⟨b, 0, none⟩ = some u ∧ w.frozen? ⟨b, 0, none⟩ = false := by
  constructor <;> simp [World.cell?, World.frozen?, h]
theorem heap_set_one {w : World} {b : Nat} {u x : Value} {t : TypeId} (h : w.heap[b]? = some (.cells #[u] t (0, 0))) : (w.setCell ⟨b, 0, none⟩ x).heap[b]? = some (.cells #[x] t (0, 0)) := by
  show (w.heap.modify b _)[b]? = _
  rw [Array.getElem?_modify, if_pos rfl, h]
  rfl
theorem In.set {w : World} {T : Nat → Prop} {B b : Nat} {u : Value} {t : TypeId} {bx : List (Nat × Value × TypeId)} {W : World} (h : In w T B ((b, u, t) :: bx) W) (hn : ∀ p ∈ bx, p.1 ≠ b) (x : Value) : In w T B ((b, x, t) :: bx) (W.setCell ⟨b, 0, none⟩ x) := by
  obtain ⟨h1, h2, h3⟩ := h.box (b, u, t) (by simp)
  have hsz : (W.setCell ⟨b, 0, none⟩ x).heap.size = W.heap.size := by simp
  refine ⟨⟨h.moved.os, h.moved.tape, h.moved.output, by rw [hsz]; exact h.moved.size, fun g hg hT => (Below.heap_setCell _ _ _ _ (by show g ≠ b; simp at h1; omega)).trans (h.moved.block g hg hT)⟩, h.low, by rw [hsz]; exact h.size, fun p hp => ?_⟩
  rcases List.mem_cons.1 hp with rfl | hp
  · exact ⟨h1, h2, heap_set_one h3⟩
  · obtain ⟨k1, k2, k3⟩ := h.box p (by simp [hp])
    exact ⟨k1, k2, (Below.heap_setCell _ _ _ _ (hn p hp)).trans k3⟩
theorem In.b0 {w : World} {T : Nat → Prop} {B : Nat} {p : Nat × Value × TypeId} {bx : List (Nat × Value × TypeId)} {W : World} (h : In w T B (p :: bx) W) : W.cell? ⟨p.1, 0, none⟩ = some p.2.1 ∧ W.frozen? ⟨p.1, 0, none⟩ = false := cells_one (h.box p (.head _)).2.2
theorem In.b1 {w : World} {T : Nat → Prop} {B : Nat} {p q : Nat × Value × TypeId} {bx : List (Nat × Value × TypeId)} {W : World} (h : In w T B (q :: p :: bx) W) : W.cell? ⟨p.1, 0, none⟩ = some p.2.1 ∧ W.frozen? ⟨p.1, 0, none⟩ = false := cells_one (h.box p (.tail _ (.head _))).2.2
theorem In.b2 {w : World} {T : Nat → Prop} {B : Nat} {p q r : Nat × Value × TypeId} {bx : List (Nat × Value × TypeId)} {W : World} (h : In w T B (q :: r :: p :: bx) W) : W.cell? ⟨p.1, 0, none⟩ = some p.2.1 ∧ W.frozen? ⟨p.1, 0, none⟩ = false := cells_one (h.box p (.tail _ (.tail _ (.head _)))).2.2
theorem In.b3 {w : World} {T : Nat → Prop} {B : Nat} {p q r s : Nat × Value × TypeId} {bx : List (Nat × Value × TypeId)} {W : World} (h : In w T B (q :: r :: s :: p :: bx) W) : W.cell? ⟨p.1, 0, none⟩ = some p.2.1 ∧ W.frozen? ⟨p.1, 0, none⟩ = false := cells_one (h.box p (.tail _ (.tail _ (.tail _ (.head _))))).2.2
theorem In.b4 {w : World} {T : Nat → Prop} {B : Nat} {p q r s t : Nat × Value × TypeId} {bx : List (Nat × Value × TypeId)} {W : World} (h : In w T B (q :: r :: s :: t :: p :: bx) W) : W.cell? ⟨p.1, 0, none⟩ = some p.2.1 ∧ W.frozen? ⟨p.1, 0, none⟩ = false := cells_one (h.box p (.tail _ (.tail _ (.tail _ (.tail _ (.head _)))))).2.2
theorem In.start {w W : World} {U : Nat → Prop} {bx : List (Nat × Value × TypeId)} (hb : Below w.heap.size w W) (hbx : ∀ p ∈ bx, w.heap.size ≤ p.1 ∧ W.heap[p.1]? = some (.cells #[p.2.1] p.2.2 (0, 0))) {B : Nat} (hB : B = W.heap.size + 2) (d o : Obj) : In w U B bx ((W.alloc d).alloc o) := by
  have h2 : Below W.heap.size W ((W.alloc d).alloc o) := ((Below.refl _ _).alloc (Nat.le_refl _) _).alloc (by simp) _
  have h1 := hb.trans (h2.mono hb.size)
  have hsz := hb.size
  refine ⟨.of_below h1, by omega, by rw [hB]; simp, fun p hp => ?_⟩
  obtain ⟨k1, k2⟩ := hbx p hp
  have hlt : p.1 < W.heap.size := (Array.getElem?_eq_some_iff.1 k2).1
  exact ⟨k1, by omega, (h2.block _ hlt).trans k2⟩
theorem Same2.of_below {D : Nat} {W W' : World} (h : Below W.heap.size W W') (hD : D + 1 < W.heap.size) : Same2 D W W' := ⟨h.block D (by omega), h.block (D + 1) hD⟩
theorem Same2.drewN {D : Nat} {W W' : World} (h : Same2 D W W') (n : Nat) : Same2 D W (W'.drewN n) := h
theorem In.drewN {w W : World} {U : Nat → Prop} {B : Nat} {bx : List (Nat × Value × TypeId)} (h : In w U B bx W) (n : Nat) : In w U B bx (W.drewN n) := h.below (below_drewN' (Below.refl _ _) n)
end Go.Proofs.YtcfdpimpleniaaaDoor
namespace Go.Proofs.YtcfdpimpleniaaaDoor
open Go.RowKit
set_option maxRecDepth 100000
set_option linter.unusedVariables false
set_option linter.unusedSimpArgs false

section
variable {P : Program} {ops : Array Oper} {Q : Exit → Act → World → Prop}
/-! ### Within a round -/
/-! ### The last operations -/
/-- The ancestors of the first k operations. -/
def ancs (ops : Array Oper) : Nat → List (List Nat)
  | 0 => []
  | k + 1 => ancs ops k ++ [match ops[k]? with | some o => (o.after.toList.filter fun e => Region.binds .any e).flatMap fun e => e.on :: (ancs ops k).getD e.on [] | none => []]
theorem ancs_len (ops : Array Oper) : ∀ k, (ancs ops k).length = k
  | 0 => rfl
  | k + 1 => by unfold ancs; rw [List.length_append, ancs_len ops k]; rfl
theorem ancs_at (ops : Array Oper) : ∀ (n k : Nat), k < n → (ancs ops n).getD k [] = (match ops[k]? with | some o => (o.after.toList.filter fun e => Region.binds .any e).flatMap fun e => e.on :: (ancs ops k).getD e.on [] | none => [])
  | n + 1, k, h => by
    by_cases e : k = n
    · subst e
      rw [ancs, List.getD_eq_getElem?_getD, List.getElem?_append_right (by rw [ancs_len]; exact Nat.le_refl _), ancs_len, Nat.sub_self]; rfl
    · rw [ancs, List.getD_eq_getElem?_getD, List.getElem?_append_left (by rw [ancs_len]; omega), ← List.getD_eq_getElem?_getD]
      exact ancs_at ops n k (by omega)
theorem ancs_same (ops : Array Oper) {n m k : Nat} (h1 : k < n) (h2 : k < m) : (ancs ops n).getD k [] = (ancs ops m).getD k [] := by rw [ancs_at ops n k h1, ancs_at ops m k h2]
/-- Where each listed operation's own are listed, all ancestors are. -/
theorem ancs_listed {pre : List (List (Nat × Nat))} (hk : RgOk ops pre) {L : Nat → Bool} (hcl : ∀ j o, ops[j]? = some o → L j = true → ∀ e ∈ o.after, Region.binds .any e = true → L e.on = true) :
    ∀ (k : Nat) (o : Oper), ops[k]? = some o → (∀ e ∈ o.after, Region.binds .any e = true → L e.on = true) → ∀ x ∈ (ancs ops ops.size).getD k [], L x = true := by
  intro k
  induction k using Nat.strongRecOn with
  | ind k ih =>
    intro o ho hall x hx
    have hlt : k < ops.size := (Array.getElem?_eq_some_iff.1 ho).1
    rw [ancs_at ops ops.size k hlt, ho] at hx
    simp only [List.mem_flatMap, List.mem_filter, Array.mem_toList_iff] at hx
    obtain ⟨e, ⟨he, hb⟩, hx⟩ := hx
    have hon := hall e he hb
    have hdn := hk.down ho e he hb
    rcases List.mem_cons.1 hx with rfl | hx
    · exact hon
    · have hlt2 : e.on < ops.size := by omega
      have ho2 : ops[e.on]? = some ops[e.on] := Array.getElem?_eq_getElem hlt2
      rw [ancs_same ops hdn hlt2] at hx
      exact ih e.on hdn _ ho2 (fun e' he' hb' => hcl _ _ ho2 hon e' he' hb') x hx
/-- From m on each operation comes behind all that stand ahead of it. -/
def tailChk (ops : Array Oper) (m : Nat) : Bool := (List.range ops.size).all fun j => Nat.blt j m || (List.range j).all fun i => ((ancs ops ops.size).getD j []).contains i
theorem tailOk {m : Nat} (h : tailChk ops m = true) {i j : Nat} (hj : j < ops.size) (hm : m ≤ j) (hi : i < j) : i ∈ (ancs ops ops.size).getD j [] := by
  have := List.all_eq_true.1 h j (List.mem_range.2 hj)
  rw [Bool.or_eq_true] at this
  rcases this with h1 | h1
  · rw [Nat.blt_eq] at h1; omega
  · have := List.all_eq_true.1 h1 i (List.mem_range.2 hi)
    simpa using this
def Closed (ops : Array Oper) (L : Nat → Bool) : Prop := ∀ j o, ops[j]? = some o → L j = true → ∀ e ∈ o.after, Region.binds .any e = true → L e.on = true
theorem closed_set {listed : Array Bool} {i : Nat} {o : Oper} (ho : ops[i]? = some o) (h : Closed ops (fun j => listed.getD j false)) (hlt : i < listed.size) (hr : ∀ e ∈ o.after, Region.binds .any e = true → listed.getD e.on false = true) :
    Closed ops (fun j => (listed.setIfInBounds i true).getD j false) ∧ (fun j => (listed.setIfInBounds i true).getD j false) = fun j => j == i || listed.getD j false := by
  have hfun : (fun j => (listed.setIfInBounds i true).getD j false) = fun j => j == i || listed.getD j false := funext fun j => by
    by_cases e : j = i
    · subst e
      simp [Array.getD_eq_getD_getElem?, Array.getElem?_setIfInBounds_self_of_lt hlt]
    · rw [getD_set_ne false (Ne.symm e)]
      simp [e]
  refine ⟨?_, hfun⟩
  rw [hfun]
  intro j q hq hl e he hb
  by_cases ej : j = i
  · subst ej
    rw [ho] at hq
    injection hq with hq
    subst hq
    simp [hr e he hb]
  · have hl' : listed.getD j false = true := by simpa [ej] using hl
    have := h j q hq hl' e he hb
    simp [this]
/-- The tail, in the text's order. -/
theorem tail_any {pre : List (List (Nat × Nat))} (hk : RgOk ops pre) {m : Nat} (ht : tailChk ops m = true) : ∀ (d j fuel : Nat) (listed : Array Bool) (a : Act) (w : World), j + d = ops.size → m ≤ j → listed.size = ops.size → d ≤ fuel →
    (∀ i, i < ops.size → listed.getD i false = decide (i < j)) → Closed ops (fun j => listed.getD j false) → wpOps P ops (NoPanic Q) (List.range' j d) a w → wpAny P .any ops (NoPanic Q) fuel listed a w := by
  intro d
  induction d with
  | zero =>
    intro j fuel listed a w hj hm hsz hf hl hcl h
    have hnone : Region.ready .any ops listed = [] := by
      cases hr : Region.ready .any ops listed with
      | nil => rfl
      | cons x r =>
        obtain ⟨h0, o, ho, _⟩ := mem_ready.1 (show x ∈ Region.ready .any ops listed by rw [hr]; simp)
        have hx := (Array.getElem?_eq_some_iff.1 ho).1
        have := hl x hx
        simp [Array.getD_eq_getD_getElem?, Array.getElem?_eq_getElem (show x < listed.size by omega)] at h0 this
        rw [h0] at this
        simp at this
        omega
    cases fuel with
    | zero => exact ⟨hnone, h⟩
    | succ fuel => exact ⟨fun _ => h, fun i hi => by rw [hnone] at hi; cases hi⟩
  | succ d ih =>
    intro j fuel listed a w hj hm hsz hf hl hcl h
    obtain ⟨fuel, rfl⟩ : ∃ f, fuel = f + 1 := ⟨fuel - 1, by omega⟩
    have hjlt : j < ops.size := by omega
    have hoj : ops[j]? = some ops[j] := Array.getElem?_eq_getElem hjlt
    have hjr : j ∈ Region.ready .any ops listed := mem_ready.2 ⟨by
      have := hl j hjlt
      simp [Array.getD_eq_getD_getElem?, Array.getElem?_eq_getElem (show j < listed.size by omega)] at this ⊢; exact this, _, hoj, fun e he hb => by
      have hd := hk.down hoj e he hb
      rw [hl e.on (by omega)]; simp [hd]⟩
    refine ⟨fun hr => (by rw [hr] at hjr; cases hjr), fun i hi => ?_⟩
    obtain ⟨h0, o, ho, hall⟩ := mem_ready.1 hi
    have hilt := (Array.getElem?_eq_some_iff.1 ho).1
    have hij : i = j := by
      have h1 := hl i hilt
      have h2 : listed.getD i false = false := by
        simp [Array.getD_eq_getD_getElem?, Array.getElem?_eq_getElem (show i < listed.size by omega)] at h0 ⊢; exact h0
      rw [h2] at h1
      have hge : j ≤ i := by simpa using h1.symm
      by_cases e : i = j
      · exact e
      · exfalso
        have := ancs_listed hk hcl i o ho hall j (tailOk ht hilt (by omega) (by omega))
        rw [hl j hjlt] at this
        simp at this
    subst hij
    rw [List.range'_succ, wpOps_cons] at h
    refine wpOp_mono (fun a' w' hh => ?_) h
    obtain ⟨hcl', hfun⟩ := closed_set ho hcl (by omega) hall
    refine ih (i + 1) fuel _ a' w' (by omega) (by omega) (by simp [hsz]) (by omega) (fun x hx => ?_) hcl' hh
    have hx2 : (listed.setIfInBounds i true).getD x false = (x == i || listed.getD x false) := congrFun hfun x
    show (listed.setIfInBounds i true).getD x false = decide (x < i + 1)
    rw [hx2, hl x hx, Bool.eq_iff_iff]
    simp
    omega
/-- The slots that the first m operations write. -/
def allChkM (ops : Array Oper) (m : Nat) (all : List (Nat × Nat)) : Bool :=
  ((List.range m).all fun i => match ops[i]? with | some o => (match o.dst with | some t => all.contains (t, i) | none => true) | none => false) &&
  (all.all fun p => Nat.blt p.2 m && match ops[p.2]? with | some o => o.dst == some p.1 | none => false)
variable {Γ : Type}
theorem held_upto {a0 : Act} {pre : List (List (Nat × Nat))} {I : Γ → World → Prop} {R : Nat → Value → Γ → World → Prop} {F : Nat → Γ → Prop} {all : List (Nat × Nat)} (hk : RgOk ops pre) {m : Nat} (hall : allChkM ops m all = true)
    {L : Nat → Bool} {vs : Nat → Value} {g : Γ} {a : Act} {w : World} (h : Held ops a0 pre I R F L vs g a w) (hL : ∀ i, i < ops.size → L i = decide (i < m)) : a = fill a0 vs all := by
  have hlt : ∀ {i : Nat} {o : Oper}, ops[i]? = some o → i < ops.size := fun {i o} ho => (Array.getElem?_eq_some_iff.1 ho).1
  unfold allChkM at hall
  rw [Bool.and_eq_true] at hall
  have hin : ∀ (i : Nat) (o : Oper) (t : Nat), ops[i]? = some o → o.dst = some t → i < m → (t, i) ∈ all := fun i o t ho hd him => by
    have := List.all_eq_true.1 hall.1 i (List.mem_range.2 him)
    rw [ho] at this
    simp only [hd] at this
    simpa using this
  have hall2 : ∀ p ∈ all, p.2 < m ∧ ∃ o, ops[p.2]? = some o ∧ o.dst = some p.1 := fun p hp => by
    have := List.all_eq_true.1 hall.2 p hp
    rw [Bool.and_eq_true, Nat.blt_eq] at this
    refine ⟨this.1, ?_⟩
    cases hq : ops[p.2]? with
    | none => rw [hq] at this; cases this.2
    | some q => rw [hq] at this; exact ⟨q, rfl, by simpa using this.2⟩
  have e : a.tmps = (fill a0 vs all).tmps := by
    refine Array.ext_getElem? fun t => ?_
    by_cases hw : ∃ (j : Nat) (q : Oper), ops[j]? = some q ∧ q.dst = some t ∧ j < m
    · obtain ⟨j, q, hq, hd, hjm⟩ := hw
      by_cases hts : t < a0.tmps.size
      · rw [h.slot t j q hq hd (by rw [hL j (hlt hq)]; simp [hjm]) hts, fill_in a0 vs _ t j (hin j q t hq hd hjm) (fun p hp he => by
          obtain ⟨_, q', hq', hd'⟩ := hall2 p hp
          exact hk.one hq hq' hd (by rw [hd', he])) hts]
      · rw [Array.getElem?_eq_none (by rw [h.size]; omega), Array.getElem?_eq_none (by rw [fill_size]; omega)]
    · rw [h.rest t (fun j q hq hd => by
        rw [hL j (hlt hq)]
        simp only [decide_eq_false_iff_not]
        exact fun hjm => hw ⟨j, q, hq, hd, hjm⟩), fill_out a0 vs _ t (fun p hp he => by
        obtain ⟨hpm, q', hq', hd'⟩ := hall2 p hp
        exact hw ⟨_, q', hq', by rw [hd', he], hpm⟩)]
  have ed : a.defers = (fill a0 vs all).defers := by rw [fill_defers]; exact h.defers
  cases a
  cases hf : fill a0 vs all
  rw [hf] at e ed
  simp only at e ed
  rw [e, ed]
/-- All orders of the first m operations, then the others. -/
theorem tail_plan {a0 : Act} {g0 : Γ} {w0 : World} (m : Nat) (pre : List (List (Nat × Nat))) (all : List (Nat × Nat)) (chk : rgChk ops pre = true) (chk2 : allChkM ops m all = true) (chk3 : tailChk ops m = true) (hmn : m ≤ ops.size)
    (I : Γ → World → Prop) (R : Nat → Value → Γ → World → Prop) (G : Nat → Γ → World → Γ → World → Prop) (F : Nat → Γ → Prop)
    (st : ∀ i j v g w g' w', i ≠ j → i < ops.size → R i v g w → G j g w g' w' → R i v g' w') (stF : ∀ i j g w g' w', i ≠ j → F i g → G j g w g' w' → F i g') (start : I g0 w0) (startF : ∀ i, F i g0)
    (steps : StepsL P ops Q a0 pre I R G F (ops.toList.take m) 0)
    (fin : ∀ vs g w, I g w → (∀ i, i < m → R i (vs i) g w) → wpOps P ops (NoPanic Q) (List.range' m (ops.size - m)) (fill a0 vs all) w) :
    wpAny P .any ops (NoPanic Q) ops.size (Array.replicate ops.size false) a0 w0 := by
  have hk := rgOk chk
  have stepAt : ∀ {i : Nat} {o : Oper}, ops[i]? = some o → i < m → StepAt P ops Q a0 pre I R G F o i := fun {i o} ho him => by
    have := stepsL_at steps (i := i) (o := o) (by rw [List.getElem?_take, if_pos him]; simpa using ho)
    rwa [Nat.zero_add] at this
  have key : ∀ (fuel : Nat) (listed : Array Bool) (vs : Nat → Value) (g : Γ) (a : Act) (w : World), listed.size = ops.size → cntF ops.size (fun i => listed.getD i false) ≤ fuel → Closed ops (fun i => listed.getD i false) → (∀ i, m ≤ i → listed.getD i false = false) →
      Held ops a0 pre I R F (fun i => listed.getD i false) vs g a w → wpAny P .any ops (NoPanic Q) fuel listed a w := by
    intro fuel
    induction fuel with
    | zero =>
      intro listed vs g a w hsz hc hcl htl h
      have hall := cntF_zero (Nat.le_zero.1 hc)
      have hme : m = ops.size := by
        by_cases e : m < ops.size
        · have := hall m e; rw [htl m (Nat.le_refl _)] at this; cases this
        · omega
      have hL : ∀ i, i < ops.size → listed.getD i false = decide (i < m) := fun i hi => by rw [hall i hi]; simp; omega
      have := fin vs g w h.inv fun i hi => h.fact i (by omega) (hall i (by omega))
      rw [← held_upto hk chk2 h hL] at this
      exact tail_any hk chk3 0 m 0 listed a w (by omega) (Nat.le_refl _) hsz (Nat.le_refl _) hL hcl (by rw [hme, Nat.sub_self] at this; rw [hme]; exact this)
    | succ fuel ih =>
      intro listed vs g a w hsz hc hcl htl h
      by_cases hfull : ∀ i, i < m → listed.getD i false = true
      · have hL : ∀ i, i < ops.size → listed.getD i false = decide (i < m) := fun i hi => by
          by_cases e : i < m
          · rw [hfull i e]; simp [e]
          · rw [htl i (by omega)]; simp; omega
        have := fin vs g w h.inv fun i hi => h.fact i (by omega) (hfull i hi)
        rw [← held_upto hk chk2 h hL] at this
        refine tail_any hk chk3 (ops.size - m) m (fuel + 1) listed a w (by omega) (Nat.le_refl _) hsz ?_ hL hcl this
        refine Nat.le_trans ?_ hc
        unfold cntF
        rw [show List.range ops.size = List.range' 0 m ++ List.range' m (ops.size - m) by have e := @List.range'_append_1 0 m (ops.size - m); rw [Nat.zero_add] at e; rw [List.range_eq_range', e]; congr 1; omega, List.countP_append]
        have : (List.range' m (ops.size - m)).countP (fun i => !(fun i => listed.getD i false) i) = ops.size - m := by
          rw [List.countP_eq_length.2 (fun i hi => by
            have := List.mem_range'_1.1 hi
            simp [htl i this.1])]
          simp
        omega
      · refine ⟨fun hr => ?_, fun i hi => ?_⟩
        · exfalso
          refine hfull fun i => ?_
          induction i using Nat.strongRecOn with
          | ind i ih' =>
            intro him
            cases hl : listed.getD i false with
            | true => rfl
            | false =>
              have hilt : i < ops.size := by omega
              have ho : ops[i]? = some ops[i] := Array.getElem?_eq_getElem hilt
              have hm : i ∈ Region.ready .any ops listed := mem_ready.2 ⟨by
                simp [Array.getD_eq_getD_getElem?, Array.getElem?_eq_getElem (show i < listed.size by omega)] at hl ⊢; exact hl, ops[i], ho, fun e he hb => by
                have hd := hk.down ho e he hb
                exact ih' e.on hd (by omega)⟩
              rw [hr] at hm; cases hm
        · obtain ⟨h0, o, ho, hall⟩ := mem_ready.1 hi
          have hlt : i < listed.size := by rw [hsz]; exact (Array.getElem?_eq_some_iff.1 ho).1
          have h0' : listed.getD i false = false := by
            simp [Array.getD_eq_getD_getElem?, Array.getElem?_eq_getElem hlt] at h0 ⊢; exact h0
          have him : i < m := by
            by_cases e : i < m
            · exact e
            · exfalso
              refine hfull fun x hx => ?_
              exact ancs_listed hk hcl i o ho hall x (tailOk chk3 (by omega) (by omega) (by omega))
          refine wpOp_mono (fun a' w' hh => ?_) (held_step hk st stF ho (stepAt ho him) h h0' hall)
          obtain ⟨vs', g', hh⟩ := hh
          obtain ⟨hcl', hfun⟩ := closed_set ho hcl hlt hall
          refine ih _ vs' g' a' w' (by simp [hsz]) ?_ hcl' (fun x hx => ?_) (by rw [hfun]; exact hh)
          · rw [hfun]
            have := cntF_step (n := ops.size) (i := i) (L := fun j => listed.getD j false) (by omega) h0'
            omega
          · have hx2 : (listed.setIfInBounds i true).getD x false = (x == i || listed.getD x false) := congrFun hfun x
            show (listed.setIfInBounds i true).getD x false = false
            rw [hx2, htl x hx]
            simp; omega
  refine key ops.size (Array.replicate ops.size false) (fun _ => undef) g0 a0 _ (by simp) ?_ (fun j o ho hl => ?_) (fun i _ => ?_) ⟨start, fun i _ h => ?_, fun i _ => startF i, fun i h => ?_, rfl, rfl, fun t i o _ _ h => ?_, fun _ _ => rfl⟩
  · exact Nat.le_trans List.countP_le_length (by simp)
  all_goals
    have hz : ∀ i, (Array.replicate ops.size false).getD i false = false := fun i => by
      by_cases h : i < ops.size <;> simp [Array.getD_eq_getD_getElem?, h]
  · simp only [hz] at hl; cases hl
  · exact hz i
  · simp only [hz] at h; cases h
  · simp only [hz] at h; cases h
  · simp only [hz] at h; cases h
end
/-! ### In the direct style: old memory stays -/
section
variable {P : Program} {ops : Array Oper} {Q : Exit → Act → World → Prop}
/-- A fact that a call which makes memory leaves. -/
def DStab (R : Value → World → Prop) : Prop := ∀ v w w', R v w → Below w.heap.size w w' → R v w'
def DStabL : List (Value → World → Prop) → Prop
  | [] => True
  | R :: r => DStab R ∧ DStabL r
theorem dstab_eq {x : Value} : DStab (fun v _ => v = x) := fun _ _ _ h _ => h
theorem dstabL_at : ∀ {l : List (Value → World → Prop)}, DStabL l → ∀ i, DStab (l.getD i (fun _ _ => True))
  | [], _, i => fun _ _ _ _ _ => by simp
  | R :: r, h, 0 => h.1
  | R :: r, h, i + 1 => by rw [List.getD_cons_succ]; exact dstabL_at h.2 i
theorem dir_any {a0 : Act} {W : World} (m : Nat) (pre : List (List (Nat × Nat))) (all : List (Nat × Nat)) (Rs : List (Value → World → Prop)) (chk : rgChk ops pre = true) (chk2 : allChkM ops m all = true) (chk3 : tailChk ops m = true) (hmn : m ≤ ops.size) (hst : DStabL Rs)
    (steps : StepsL P ops Q a0 pre (fun (_ : Unit) w => Below W.heap.size W w) (fun i v _ w => Rs.getD i (fun _ _ => True) v w) (fun _ _ w _ w' => Below w.heap.size w w') (fun _ _ => True) (ops.toList.take m) 0)
    (fin : ∀ vs w, Below W.heap.size W w → (∀ i, i < m → Rs.getD i (fun _ _ => True) (vs i) w) → wpOps P ops (NoPanic Q) (List.range' m (ops.size - m)) (fill a0 vs all) w) :
    wpAny P .any ops (NoPanic Q) ops.size (Array.replicate ops.size false) a0 W.drew :=
  tail_plan (Γ := Unit) (g0 := ()) m pre all chk chk2 chk3 hmn (fun _ w => Below W.heap.size W w) (fun i v _ w => Rs.getD i (fun _ _ => True) v w) (fun _ _ w _ w' => Below w.heap.size w w') (fun _ _ => True)
    (fun i j v g w g' w' _ _ h hb => dstabL_at hst i v w w' h hb) (fun _ _ _ _ _ _ _ h _ => h) (below_drewN' (Below.refl _ _) 1) (fun _ => trivial) steps (fun vs g w h hr => fin vs w h hr)
/-- A region of whatever order. -/
theorem dir_plain {id : Nat} {a0 : Act} {W : World} (hm : P.follows .mixedOrders = true) (m : Nat) (pre : List (List (Nat × Nat))) (all : List (Nat × Nat)) (Rs : List (Value → World → Prop)) (chk : rgChk ops pre = true) (chk2 : allChkM ops m all = true) (chk3 : tailChk ops m = true) (hmn : m ≤ ops.size) (hst : DStabL Rs)
    (steps : StepsL P ops Q a0 pre (fun (_ : Unit) w => Below W.heap.size W w) (fun i v _ w => Rs.getD i (fun _ _ => True) v w) (fun _ _ w _ w' => Below w.heap.size w w') (fun _ _ => True) (ops.toList.take m) 0)
    (fin : ∀ vs w, Below W.heap.size W w → (∀ i, i < m → Rs.getD i (fun _ _ => True) (vs i) w) → wpOps P ops (NoPanic Q) (List.range' m (ops.size - m)) (fill a0 vs all) w) :
    (Code.region id ops true).wp P Q a0 W := wp_region_noPanic (wp_region_any hm (dir_any m pre all Rs chk chk2 chk3 hmn hst steps fin))
theorem wpOps_step {i : Nat} {rest : List Nat} {o : Oper} {a : Act} {w : World} (ho : ops[i]? = some o) (hg : o.guard = none) (h : o.wp P a w (wpOps P ops Q rest) Q) : wpOps P ops Q (i :: rest) a w := by
  rw [wpOps_cons]
  unfold wpOp
  rw [ho]
  simp only [Region.wanted, hg, if_true]
  exact .inl h
end
end Go.Proofs.YtcfdpimpleniaaaDoor
namespace Go.Proofs.YtcfdpimpleniaaaDoor
open Go.RowKit
set_option maxRecDepth 100000
set_option linter.unusedVariables false
set_option linter.unusedSimpArgs false

section
variable {P : Program} {ops : Array Oper} {Q : Exit → Act → World → Prop}
def rgChkM (ops : Array Oper) (m : Nat) (pre : List (List (Nat × Nat))) : Bool :=
  (List.range ops.size).all fun i => match ops[i]?, pre[i]? with
    | some o, some l =>
      (match o.op with | .select .. => false | _ => true) &&
      (o.after.all fun e => !Region.binds .any e || Nat.blt e.on i) &&
      (l.all fun p => (match ops[p.2]? with | some q => q.dst == some p.1 | none => false) && o.after.any fun e => Region.binds .any e && (e.on == p.2 || (pre.getD e.on []).contains p)) &&
      ((o.looksAt ops).all fun t => (List.range ops.size).all fun j => (match ops[j]? with | some q => q.dst != some t || !(Nat.blt j m) | none => true) || l.contains (t, j)) &&
      ((List.range ops.size).all fun j => j == i || (match o.dst with | none => true | some t => match ops[j]? with | some q => q.dst != some t | none => true))
    | _, _ => false
structure RgOkM (ops : Array Oper) (m : Nat) (pre : List (List (Nat × Nat))) : Prop where
  sel : ∀ {i : Nat} {o : Oper}, ops[i]? = some o → ∀ cs b, o.op ≠ .select cs b
  down : ∀ {i : Nat} {o : Oper}, ops[i]? = some o → ∀ e ∈ o.after, Region.binds .any e = true → e.on < i
  dst : ∀ {i : Nat} {o : Oper}, ops[i]? = some o → ∀ p ∈ pre.getD i [], ∃ q, ops[p.2]? = some q ∧ q.dst = some p.1
  anc : ∀ {i : Nat} {o : Oper}, ops[i]? = some o → ∀ p ∈ pre.getD i [], ∃ e ∈ o.after, Region.binds .any e = true ∧ (e.on = p.2 ∨ p ∈ pre.getD e.on [])
  looks : ∀ {i : Nat} {o : Oper}, ops[i]? = some o → ∀ t ∈ o.looksAt ops, ∀ {j : Nat} {q : Oper}, ops[j]? = some q → q.dst = some t → j < m → (t, j) ∈ pre.getD i []
  one : ∀ {i j : Nat} {o q : Oper} {t : Nat}, ops[i]? = some o → ops[j]? = some q → o.dst = some t → q.dst = some t → j = i
theorem rgOkM {m : Nat} {pre : List (List (Nat × Nat))} (h : rgChkM ops m pre = true) : RgOkM ops m pre := by
  have key : ∀ {i : Nat} {o : Oper}, ops[i]? = some o → _ := fun {i o} ho => by
    have hi : i < ops.size := (Array.getElem?_eq_some_iff.1 ho).1
    have h1 := List.all_eq_true.1 h i (List.mem_range.2 hi)
    rw [ho] at h1
    exact h1
  have lt : ∀ {i : Nat} {o : Oper}, ops[i]? = some o → i < ops.size := fun {i o} ho => (Array.getElem?_eq_some_iff.1 ho).1
  refine ⟨fun {i o} ho cs b e => ?_, fun {i o} ho e he hb => ?_, fun {i o} ho p hp => ?_, fun {i o} ho p hp => ?_, fun {i o} ho t ht j q hq hd hjm => ?_, fun {i j o q t} ho hq hd hd' => ?_⟩
  all_goals
    have h1 := key ho
    obtain ⟨l, hl⟩ : ∃ l, pre[i]? = some l := by
      cases hl : pre[i]? with
      | none => rw [hl] at h1; cases h1
      | some l => exact ⟨l, rfl⟩
    rw [hl] at h1
    have hg : pre.getD i [] = l := by rw [List.getD_eq_getElem?_getD, hl]; rfl
    simp only [Bool.and_eq_true] at h1
    obtain ⟨⟨⟨⟨s1, s2⟩, s3⟩, s4⟩, s5⟩ := h1
  · rw [e] at s1; cases s1
  · have := Array.all_eq_true_iff_forall_mem.1 s2 e he
    rw [hb] at this
    simpa [Nat.blt_eq] using this
  · rw [hg] at hp
    have := List.all_eq_true.1 s3 p hp
    rw [Bool.and_eq_true] at this
    cases hq : ops[p.2]? with
    | none => rw [hq] at this; cases this.1
    | some q => rw [hq] at this; exact ⟨q, rfl, by simpa using this.1⟩
  · rw [hg] at hp
    have := List.all_eq_true.1 s3 p hp
    rw [Bool.and_eq_true] at this
    obtain ⟨e, he, h2⟩ := Array.any_eq_true'.1 this.2
    rw [Bool.and_eq_true] at h2
    refine ⟨e, he, h2.1, ?_⟩
    rcases Bool.or_eq_true_iff.1 h2.2 with h3 | h3
    · exact .inl (by simpa using h3)
    · exact .inr (by simpa using h3)
  · rw [hg]
    have := List.all_eq_true.1 (List.all_eq_true.1 s4 t ht) j (List.mem_range.2 (lt hq))
    rw [hq] at this
    simp only [hd, bne_self_eq_false, Bool.false_or] at this
    have hb : Nat.blt j m = true := by rw [Nat.blt_eq]; exact hjm
    rw [hb] at this
    simpa using this
  · have := List.all_eq_true.1 s5 j (List.mem_range.2 (lt hq))
    rw [hd, hq] at this
    simp only [hd', bne_self_eq_false, Bool.or_false] at this
    simpa using this
variable {Γ : Type}
theorem held_stepM {a0 : Act} {pre : List (List (Nat × Nat))} {I : Γ → World → Prop} {R : Nat → Value → Γ → World → Prop} {G : Nat → Γ → World → Γ → World → Prop} {F : Nat → Γ → Prop} {m : Nat} (hk : RgOkM ops m pre)
    (hst : ∀ i j v g w g' w', i ≠ j → i < ops.size → R i v g w → G j g w g' w' → R i v g' w') (hF : ∀ i j g w g' w', i ≠ j → F i g → G j g w g' w' → F i g')
    {i : Nat} {o : Oper} (ho : ops[i]? = some o) (hs : StepAt P ops Q a0 pre I R G F o i) {L : Nat → Bool} {vs : Nat → Value} {g : Γ} {a : Act} {w : World} (h : Held ops a0 pre I R F L vs g a w)
    (hi : L i = false) (hready : ∀ e ∈ o.after, Region.binds .any e = true → L e.on = true) (him : i < m) (htl : ∀ j, m ≤ j → L j = false) :
    wpOp P ops (NoPanic Q) i (fun a' w' => ∃ vs' g', Held ops a0 pre I R F (fun j => j == i || L j) vs' g' a' w') a w := by
  have hpre : ∀ p ∈ pre.getD i [], L p.2 = true := fun p hp => by
    obtain ⟨e, he, hb, h1⟩ := hk.anc ho p hp
    rcases h1 with h1 | h1
    · rw [← h1]; exact hready e he hb
    · exact h.closed _ (hready e he hb) p h1
  have hlt : ∀ {i : Nat} {o : Oper}, ops[i]? = some o → i < ops.size := fun {i o} ho => (Array.getElem?_eq_some_iff.1 ho).1
  have hfacts : Facts R vs g w (pre.getD i []) := facts_of fun p hp => by
    obtain ⟨q, hq, _⟩ := hk.dst ho p hp
    exact h.fact _ (hlt hq) (hpre p hp)
  -- the two frames agree wherever the operation looks
  have hsame : ∀ t ∈ o.looksAt ops, a.tmps[t]? = (fill a0 vs (pre.getD i [])).tmps[t]? := fun t ht => by
    by_cases hw : ∃ (j : Nat) (q : Oper), ops[j]? = some q ∧ q.dst = some t ∧ j < m
    · obtain ⟨j, q, hq, hd, hjm⟩ := hw
      have hin := hk.looks ho t ht hq hd hjm
      by_cases hts : t < a0.tmps.size
      · rw [h.slot t j q hq hd (hpre _ hin) hts, fill_in a0 vs _ t j hin (fun p hp he => by
          obtain ⟨q', hq', hd'⟩ := hk.dst ho p hp
          exact hk.one hq hq' hd (by rw [hd', he])) hts]
      · rw [Array.getElem?_eq_none (by rw [h.size]; exact Nat.le_of_not_lt hts), Array.getElem?_eq_none (by rw [fill_size]; exact Nat.le_of_not_lt hts)]
    · rw [h.rest t (fun j q hq hd => by
        by_cases hjm : j < m
        · exact absurd ⟨j, q, hq, hd, hjm⟩ hw
        · exact htl j (by omega)), fill_out a0 vs _ t (fun p hp he => by
        obtain ⟨q', hq', hd'⟩ := hk.dst ho p hp
        have hlm : p.2 < m := by
          by_cases hjm : p.2 < m
          · exact hjm
          · have h1 := hpre p hp; rw [htl p.2 (by omega)] at h1; cases h1
        exact hw ⟨_, q', hq', by rw [hd', he], hlm⟩)]
  have hev : execOp a.eval o = execOp (fill a0 vs (pre.getD i [])).eval o := execOp_congr o (hk.sel ho) fun x hx => by
    cases x with
    | tmp t =>
      have := hsame t (List.mem_append_left _ (List.mem_filterMap.2 ⟨.tmp t, by simpa using hx, rfl⟩))
      simp only [Act.eval, Array.getD_eq_getD_getElem?, this]
    | _ => rfl
  have hwa : Region.wanted o (yielded ops a.tmps) = Region.wanted o (yielded ops (fill a0 vs (pre.getD i [])).tmps) := by
    unfold Region.wanted
    cases hg : o.guard with
    | none => rfl
    | some gw =>
      obtain ⟨gi, want⟩ := gw
      have hy : yielded ops a.tmps gi = yielded ops (fill a0 vs (pre.getD i [])).tmps gi := by
        unfold yielded
        cases ht : (ops[gi]?).bind (·.dst) with
        | none => rfl
        | some t =>
          have := hsame t (by simp [Oper.looksAt, hg, ht])
          simp only [Option.bind_some, this]
      simp only [hy]
  -- what follows
  have next : ∀ v g' w', I g' w' → G i g w g' w' → R i v g' w' → ∃ vs' g'', Held ops a0 pre I R F (fun j => j == i || L j) vs' g'' (a.put o.dst v) w' := fun v g' w' h1 h2 h3 => by
    refine ⟨fun j => if j = i then v else vs j, g', ⟨h1, fun j hj hl => ?_, fun j hl => ?_, fun j hl p hp => ?_, put_put.trans h.defers, put_size.trans h.size, fun t j q hq hd hl ht => ?_, fun t hall => ?_⟩⟩
    · by_cases e : j = i
      · subst e; simp only [if_true]; exact h3
      · simp only [if_neg e]
        have hl' : L j = true := by simpa [e] using hl
        exact hst j i _ _ _ _ _ e hj (h.fact j hj hl') h2
    · have e : j ≠ i := fun e => by simp [e] at hl
      exact hF j i _ _ _ _ e (h.todo j (by simpa [e] using hl)) h2
    · by_cases e : j = i
      · subst e; simp [hpre p hp]
      · have hl' : L j = true := by simpa [e] using hl
        simp [h.closed j hl' p hp]
    · by_cases e : j = i
      · subst e
        rw [ho] at hq
        injection hq with hq
        subst hq
        simp only [if_true, hd, Act.put]
        rw [Array.getElem?_setIfInBounds_self_of_lt (by rw [h.size]; exact ht)]
      · have hl' : L j = true := by simpa [e] using hl
        simp only [if_neg e]
        rw [put_get (fun hd' => e (hk.one ho hq hd' hd))]
        exact h.slot t j q hq hd hl' ht
    · have hne : o.dst ≠ some t := fun hd => by simpa using hall i o ho hd
      rw [put_get hne]
      exact h.rest t fun j q hq hd => by
        have := hall j q hq hd
        simp at this
        exact this.2
  have hstep := hs vs g w h.inv (h.todo i hi) hfacts (fun a' w' => ∃ v, a' = (fill a0 vs (pre.getD i [])).put o.dst v ∧ ∃ vs' g'', Held ops a0 pre I R F (fun j => j == i || L j) vs' g'' (a.put o.dst v) w')
    (fun v g' w' h1 h2 h3 => ⟨v, rfl, next v g' w' h1 h2 h3⟩)
  have hsz : a.tmps.size = (fill a0 vs (pre.getD i [])).tmps.size := by rw [fill_size]; exact h.size
  unfold wpOp
  simp only [ho]
  rw [hwa]
  split
  · rename_i hw
    rw [if_pos hw] at hstep
    refine .inl ?_
    unfold Oper.wp at *
    rw [hev]
    generalize (execOp (fill a0 vs (pre.getD i [])).eval o).run P w = r at *
    cases r with
    | ok n w' =>
      cases n <;> simp only [Oper.upon] at hstep ⊢
      case value u =>
        obtain ⟨v, e, hv⟩ := hstep
        rw [put_inj hsz e]; exact hv
      case skip =>
        obtain ⟨v, e, hv⟩ := hstep
        rw [put_inj hsz e]; exact hv
      case defer d =>
        obtain ⟨v, e, _⟩ := hstep
        have := congrArg Act.defers e
        rw [put_put, put_put] at this
        simp at this
      case enter f args =>
        refine Calls.mono hstep fun e w'' he => ?_
        cases e with
        | returned u =>
          obtain ⟨v, e, hv⟩ := he
          show ∃ vs' g', Held ops a0 pre I R F (fun j => j == i || L j) vs' g' (a.put o.dst u) w''
          rw [put_inj hsz e]; exact hv
        | panicked c => exact he
        | outgrown => exact he
      case row row args =>
        refine Rows.mono hstep fun u w'' he => ?_
        obtain ⟨v, e, hv⟩ := he
        show ∃ vs' g', Held ops a0 pre I R F (fun j => j == i || L j) vs' g' (a.put o.dst u) w''
        rw [put_inj hsz e]; exact hv
      all_goals exact hstep
    | halt x w' =>
      cases x <;> simp only [Oper.upon] at hstep ⊢ <;> exact hstep
  · rename_i hw
    rw [if_neg hw] at hstep
    obtain ⟨v, e, hv⟩ := hstep
    rw [put_inj hsz e]; exact hv
theorem ancs_listedM {pre : List (List (Nat × Nat))} {m : Nat} (hk : RgOkM ops m pre) {L : Nat → Bool} (hcl : ∀ j o, ops[j]? = some o → L j = true → ∀ e ∈ o.after, Region.binds .any e = true → L e.on = true) :
    ∀ (k : Nat) (o : Oper), ops[k]? = some o → (∀ e ∈ o.after, Region.binds .any e = true → L e.on = true) → ∀ x ∈ (ancs ops ops.size).getD k [], L x = true := by
  intro k
  induction k using Nat.strongRecOn with
  | ind k ih =>
    intro o ho hall x hx
    have hlt : k < ops.size := (Array.getElem?_eq_some_iff.1 ho).1
    rw [ancs_at ops ops.size k hlt, ho] at hx
    simp only [List.mem_flatMap, List.mem_filter, Array.mem_toList_iff] at hx
    obtain ⟨e, ⟨he, hb⟩, hx⟩ := hx
    have hon := hall e he hb
    have hdn := hk.down ho e he hb
    rcases List.mem_cons.1 hx with rfl | hx
    · exact hon
    · have hlt2 : e.on < ops.size := by omega
      have ho2 : ops[e.on]? = some ops[e.on] := Array.getElem?_eq_getElem hlt2
      rw [ancs_same ops hdn hlt2] at hx
      exact ih e.on hdn _ ho2 (fun e' he' hb' => hcl _ _ ho2 hon e' he' hb') x hx
theorem tail_anyM {pre : List (List (Nat × Nat))} {m0 : Nat} (hk : RgOkM ops m0 pre) {m : Nat} (ht : tailChk ops m = true) : ∀ (d j fuel : Nat) (listed : Array Bool) (a : Act) (w : World), j + d = ops.size → m ≤ j → listed.size = ops.size → d ≤ fuel →
    (∀ i, i < ops.size → listed.getD i false = decide (i < j)) → Closed ops (fun j => listed.getD j false) → wpOps P ops (NoPanic Q) (List.range' j d) a w → wpAny P .any ops (NoPanic Q) fuel listed a w := by
  intro d
  induction d with
  | zero =>
    intro j fuel listed a w hj hm hsz hf hl hcl h
    have hnone : Region.ready .any ops listed = [] := by
      cases hr : Region.ready .any ops listed with
      | nil => rfl
      | cons x r =>
        obtain ⟨h0, o, ho, _⟩ := mem_ready.1 (show x ∈ Region.ready .any ops listed by rw [hr]; simp)
        have hx := (Array.getElem?_eq_some_iff.1 ho).1
        have := hl x hx
        simp [Array.getD_eq_getD_getElem?, Array.getElem?_eq_getElem (show x < listed.size by omega)] at h0 this
        rw [h0] at this
        simp at this
        omega
    cases fuel with
    | zero => exact ⟨hnone, h⟩
    | succ fuel => exact ⟨fun _ => h, fun i hi => by rw [hnone] at hi; cases hi⟩
  | succ d ih =>
    intro j fuel listed a w hj hm hsz hf hl hcl h
    obtain ⟨fuel, rfl⟩ : ∃ f, fuel = f + 1 := ⟨fuel - 1, by omega⟩
    have hjlt : j < ops.size := by omega
    have hoj : ops[j]? = some ops[j] := Array.getElem?_eq_getElem hjlt
    have hjr : j ∈ Region.ready .any ops listed := mem_ready.2 ⟨by
      have := hl j hjlt
      simp [Array.getD_eq_getD_getElem?, Array.getElem?_eq_getElem (show j < listed.size by omega)] at this ⊢; exact this, _, hoj, fun e he hb => by
      have hd := hk.down hoj e he hb
      rw [hl e.on (by omega)]; simp [hd]⟩
    refine ⟨fun hr => (by rw [hr] at hjr; cases hjr), fun i hi => ?_⟩
    obtain ⟨h0, o, ho, hall⟩ := mem_ready.1 hi
    have hilt := (Array.getElem?_eq_some_iff.1 ho).1
    have hij : i = j := by
      have h1 := hl i hilt
      have h2 : listed.getD i false = false := by
        simp [Array.getD_eq_getD_getElem?, Array.getElem?_eq_getElem (show i < listed.size by omega)] at h0 ⊢; exact h0
      rw [h2] at h1
      have hge : j ≤ i := by simpa using h1.symm
      by_cases e : i = j
      · exact e
      · exfalso
        have := ancs_listedM hk hcl i o ho hall j (tailOk ht hilt (by omega) (by omega))
        rw [hl j hjlt] at this
        simp at this
    subst hij
    rw [List.range'_succ, wpOps_cons] at h
    refine wpOp_mono (fun a' w' hh => ?_) h
    obtain ⟨hcl', hfun⟩ := closed_set ho hcl (by omega) hall
    refine ih (i + 1) fuel _ a' w' (by omega) (by omega) (by simp [hsz]) (by omega) (fun x hx => ?_) hcl' hh
    have hx2 : (listed.setIfInBounds i true).getD x false = (x == i || listed.getD x false) := congrFun hfun x
    show (listed.setIfInBounds i true).getD x false = decide (x < i + 1)
    rw [hx2, hl x hx, Bool.eq_iff_iff]
    simp
    omega
theorem held_uptoM {a0 : Act} {pre : List (List (Nat × Nat))} {I : Γ → World → Prop} {R : Nat → Value → Γ → World → Prop} {F : Nat → Γ → Prop} {all : List (Nat × Nat)} {m0 : Nat} (hk : RgOkM ops m0 pre) {m : Nat} (hall : allChkM ops m all = true)
    {L : Nat → Bool} {vs : Nat → Value} {g : Γ} {a : Act} {w : World} (h : Held ops a0 pre I R F L vs g a w) (hL : ∀ i, i < ops.size → L i = decide (i < m)) : a = fill a0 vs all := by
  have hlt : ∀ {i : Nat} {o : Oper}, ops[i]? = some o → i < ops.size := fun {i o} ho => (Array.getElem?_eq_some_iff.1 ho).1
  unfold allChkM at hall
  rw [Bool.and_eq_true] at hall
  have hin : ∀ (i : Nat) (o : Oper) (t : Nat), ops[i]? = some o → o.dst = some t → i < m → (t, i) ∈ all := fun i o t ho hd him => by
    have := List.all_eq_true.1 hall.1 i (List.mem_range.2 him)
    rw [ho] at this
    simp only [hd] at this
    simpa using this
  have hall2 : ∀ p ∈ all, p.2 < m ∧ ∃ o, ops[p.2]? = some o ∧ o.dst = some p.1 := fun p hp => by
    have := List.all_eq_true.1 hall.2 p hp
    rw [Bool.and_eq_true, Nat.blt_eq] at this
    refine ⟨this.1, ?_⟩
    cases hq : ops[p.2]? with
    | none => rw [hq] at this; cases this.2
    | some q => rw [hq] at this; exact ⟨q, rfl, by simpa using this.2⟩
  have e : a.tmps = (fill a0 vs all).tmps := by
    refine Array.ext_getElem? fun t => ?_
    by_cases hw : ∃ (j : Nat) (q : Oper), ops[j]? = some q ∧ q.dst = some t ∧ j < m
    · obtain ⟨j, q, hq, hd, hjm⟩ := hw
      by_cases hts : t < a0.tmps.size
      · rw [h.slot t j q hq hd (by rw [hL j (hlt hq)]; simp [hjm]) hts, fill_in a0 vs _ t j (hin j q t hq hd hjm) (fun p hp he => by
          obtain ⟨_, q', hq', hd'⟩ := hall2 p hp
          exact hk.one hq hq' hd (by rw [hd', he])) hts]
      · rw [Array.getElem?_eq_none (by rw [h.size]; omega), Array.getElem?_eq_none (by rw [fill_size]; omega)]
    · rw [h.rest t (fun j q hq hd => by
        rw [hL j (hlt hq)]
        simp only [decide_eq_false_iff_not]
        exact fun hjm => hw ⟨j, q, hq, hd, hjm⟩), fill_out a0 vs _ t (fun p hp he => by
        obtain ⟨hpm, q', hq', hd'⟩ := hall2 p hp
        exact hw ⟨_, q', hq', by rw [hd', he], hpm⟩)]
  have ed : a.defers = (fill a0 vs all).defers := by rw [fill_defers]; exact h.defers
  cases a
  cases hf : fill a0 vs all
  rw [hf] at e ed
  simp only at e ed
  rw [e, ed]
theorem tail_planM {a0 : Act} {g0 : Γ} {w0 : World} (m : Nat) (pre : List (List (Nat × Nat))) (all : List (Nat × Nat)) (chk : rgChkM ops m pre = true) (chk2 : allChkM ops m all = true) (chk3 : tailChk ops m = true) (hmn : m ≤ ops.size)
    (I : Γ → World → Prop) (R : Nat → Value → Γ → World → Prop) (G : Nat → Γ → World → Γ → World → Prop) (F : Nat → Γ → Prop)
    (st : ∀ i j v g w g' w', i ≠ j → i < ops.size → R i v g w → G j g w g' w' → R i v g' w') (stF : ∀ i j g w g' w', i ≠ j → F i g → G j g w g' w' → F i g') (start : I g0 w0) (startF : ∀ i, F i g0)
    (steps : StepsL P ops Q a0 pre I R G F (ops.toList.take m) 0)
    (fin : ∀ vs g w, I g w → (∀ i, i < m → R i (vs i) g w) → wpOps P ops (NoPanic Q) (List.range' m (ops.size - m)) (fill a0 vs all) w) :
    wpAny P .any ops (NoPanic Q) ops.size (Array.replicate ops.size false) a0 w0 := by
  have hk := rgOkM chk
  have stepAt : ∀ {i : Nat} {o : Oper}, ops[i]? = some o → i < m → StepAt P ops Q a0 pre I R G F o i := fun {i o} ho him => by
    have := stepsL_at steps (i := i) (o := o) (by rw [List.getElem?_take, if_pos him]; simpa using ho)
    rwa [Nat.zero_add] at this
  have key : ∀ (fuel : Nat) (listed : Array Bool) (vs : Nat → Value) (g : Γ) (a : Act) (w : World), listed.size = ops.size → cntF ops.size (fun i => listed.getD i false) ≤ fuel → Closed ops (fun i => listed.getD i false) → (∀ i, m ≤ i → listed.getD i false = false) →
      Held ops a0 pre I R F (fun i => listed.getD i false) vs g a w → wpAny P .any ops (NoPanic Q) fuel listed a w := by
    intro fuel
    induction fuel with
    | zero =>
      intro listed vs g a w hsz hc hcl htl h
      have hall := cntF_zero (Nat.le_zero.1 hc)
      have hme : m = ops.size := by
        by_cases e : m < ops.size
        · have := hall m e; rw [htl m (Nat.le_refl _)] at this; cases this
        · omega
      have hL : ∀ i, i < ops.size → listed.getD i false = decide (i < m) := fun i hi => by rw [hall i hi]; simp; omega
      have := fin vs g w h.inv fun i hi => h.fact i (by omega) (hall i (by omega))
      rw [← held_uptoM hk chk2 h hL] at this
      exact tail_anyM hk chk3 0 m 0 listed a w (by omega) (Nat.le_refl _) hsz (Nat.le_refl _) hL hcl (by rw [hme, Nat.sub_self] at this; rw [hme]; exact this)
    | succ fuel ih =>
      intro listed vs g a w hsz hc hcl htl h
      by_cases hfull : ∀ i, i < m → listed.getD i false = true
      · have hL : ∀ i, i < ops.size → listed.getD i false = decide (i < m) := fun i hi => by
          by_cases e : i < m
          · rw [hfull i e]; simp [e]
          · rw [htl i (by omega)]; simp; omega
        have := fin vs g w h.inv fun i hi => h.fact i (by omega) (hfull i hi)
        rw [← held_uptoM hk chk2 h hL] at this
        refine tail_anyM hk chk3 (ops.size - m) m (fuel + 1) listed a w (by omega) (Nat.le_refl _) hsz ?_ hL hcl this
        refine Nat.le_trans ?_ hc
        unfold cntF
        rw [show List.range ops.size = List.range' 0 m ++ List.range' m (ops.size - m) by have e := @List.range'_append_1 0 m (ops.size - m); rw [Nat.zero_add] at e; rw [List.range_eq_range', e]; congr 1; omega, List.countP_append]
        have : (List.range' m (ops.size - m)).countP (fun i => !(fun i => listed.getD i false) i) = ops.size - m := by
          rw [List.countP_eq_length.2 (fun i hi => by
            have := List.mem_range'_1.1 hi
            simp [htl i this.1])]
          simp
        omega
      · refine ⟨fun hr => ?_, fun i hi => ?_⟩
        · exfalso
          refine hfull fun i => ?_
          induction i using Nat.strongRecOn with
          | ind i ih' =>
            intro him
            cases hl : listed.getD i false with
            | true => rfl
            | false =>
              have hilt : i < ops.size := by omega
              have ho : ops[i]? = some ops[i] := Array.getElem?_eq_getElem hilt
              have hm : i ∈ Region.ready .any ops listed := mem_ready.2 ⟨by
                simp [Array.getD_eq_getD_getElem?, Array.getElem?_eq_getElem (show i < listed.size by omega)] at hl ⊢; exact hl, ops[i], ho, fun e he hb => by
                have hd := hk.down ho e he hb
                exact ih' e.on hd (by omega)⟩
              rw [hr] at hm; cases hm
        · obtain ⟨h0, o, ho, hall⟩ := mem_ready.1 hi
          have hlt : i < listed.size := by rw [hsz]; exact (Array.getElem?_eq_some_iff.1 ho).1
          have h0' : listed.getD i false = false := by
            simp [Array.getD_eq_getD_getElem?, Array.getElem?_eq_getElem hlt] at h0 ⊢; exact h0
          have him : i < m := by
            by_cases e : i < m
            · exact e
            · exfalso
              refine hfull fun x hx => ?_
              exact ancs_listedM hk hcl i o ho hall x (tailOk chk3 (by omega) (by omega) (by omega))
          refine wpOp_mono (fun a' w' hh => ?_) (held_stepM hk st stF ho (stepAt ho him) h h0' hall him htl)
          obtain ⟨vs', g', hh⟩ := hh
          obtain ⟨hcl', hfun⟩ := closed_set ho hcl hlt hall
          refine ih _ vs' g' a' w' (by simp [hsz]) ?_ hcl' (fun x hx => ?_) (by rw [hfun]; exact hh)
          · rw [hfun]
            have := cntF_step (n := ops.size) (i := i) (L := fun j => listed.getD j false) (by omega) h0'
            omega
          · have hx2 : (listed.setIfInBounds i true).getD x false = (x == i || listed.getD x false) := congrFun hfun x
            show (listed.setIfInBounds i true).getD x false = false
            rw [hx2, htl x hx]
            simp; omega
  refine key ops.size (Array.replicate ops.size false) (fun _ => undef) g0 a0 _ (by simp) ?_ (fun j o ho hl => ?_) (fun i _ => ?_) ⟨start, fun i _ h => ?_, fun i _ => startF i, fun i h => ?_, rfl, rfl, fun t i o _ _ h => ?_, fun _ _ => rfl⟩
  · exact Nat.le_trans List.countP_le_length (by simp)
  all_goals
    have hz : ∀ i, (Array.replicate ops.size false).getD i false = false := fun i => by
      by_cases h : i < ops.size <;> simp [Array.getD_eq_getD_getElem?, h]
  · simp only [hz] at hl; cases hl
  · exact hz i
  · simp only [hz] at h; cases h
  · simp only [hz] at h; cases h
  · simp only [hz] at h; cases h
end
end Go.Proofs.YtcfdpimpleniaaaDoor
