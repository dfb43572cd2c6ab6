/-
  Packed texts: Box, Ev, Rf, In, CardKit, Open.
-/
import Derived.Orders
import Derived.Deep.RegionHeld3
import Derived.BigQuiet
import Derived.Deep.CutRange
import Derived.Deep.DeepCutAuto
import Derived.Deep.QuietTactic
import Derived.Deep.RegionLaw
import Derived.Deep.RegionWith
import Derived.Laws.CopyOwn
import Derived.Laws.Pointers
import Derived.Laws.StructEq
import Derived.Lib.Hide
import Derived.Lib.MinMax
import Derived.RegionTactic
import Derived.StillTactics
import Derived.WalkSpells
import Derived.Defers
import Derived.Recover
import Derived.RangeFuncNested
import Derived.RangeFuncBound
import Derived.RangeFuncCalls
import Derived.RangeFuncLeaves
import Derived.Below
import Derived.Lib.SliceRun
import Derived.Test.YthmkllpdkcmccaaGreatDoorRows
import Derived.Carry
import Derived.ChangeSame
import Derived.OpenShut
import Derived.RowKit
import Derived.ChangeSlices
import Derived.ProofKit
import Derived.ChangeMaps5
import Derived.Deep.Slices
import Derived.Deep.Strs
import Derived.Test.YthmkllpdkcmccaaGreatDoorP1
/- A law for regions of whatever order: every operation has a fact of its own that the others keep; no way is branched over. No program is named here. -/
namespace Go.Proofs.YthmkllpdkcmccaaGreatDoor
open Go

section
variable {P : Program} {ops : Array Oper} {Q : Exit → Act → World → Prop} {Γ : Type}

/-- The frame with the values of some operations in their slots. -/
def fill (a0 : Act) (vs : Nat → Value) : List (Nat × Nat) → Act
  | [] => a0
  | p :: r => (fill a0 vs r).put (some p.1) (vs p.2)
theorem fill_defers (a0 : Act) (vs : Nat → Value) (l : List (Nat × Nat)) : (fill a0 vs l).defers = a0.defers := by
  induction l with
  | nil => rfl
  | cons p r ih => exact ih
theorem fill_size (a0 : Act) (vs : Nat → Value) (l : List (Nat × Nat)) : (fill a0 vs l).tmps.size = a0.tmps.size := by
  induction l with
  | nil => rfl
  | cons p r ih => simp [fill, Act.put, ih]
theorem fill_out (a0 : Act) (vs : Nat → Value) (l : List (Nat × Nat)) (t : Nat) (h : ∀ p ∈ l, p.1 ≠ t) : (fill a0 vs l).tmps[t]? = a0.tmps[t]? := by
  induction l with
  | nil => rfl
  | cons p r ih =>
    simp only [fill, Act.put]
    rw [Array.getElem?_setIfInBounds_ne (h p (by simp))]
    exact ih fun q hq => h q (by simp [hq])
theorem fill_in (a0 : Act) (vs : Nat → Value) (l : List (Nat × Nat)) (t j : Nat) (hj : (t, j) ∈ l) (hu : ∀ p ∈ l, p.1 = t → p.2 = j) (ht : t < a0.tmps.size) : (fill a0 vs l).tmps[t]? = some (vs j) := by
  induction l with
  | nil => cases hj
  | cons p r ih =>
    simp only [fill, Act.put]
    by_cases hp : p.1 = t
    · have := hu p (by simp) hp
      subst hp
      subst this
      rw [Array.getElem?_setIfInBounds_self_of_lt (by rw [fill_size]; exact ht)]
    · rw [Array.getElem?_setIfInBounds_ne hp]
      refine ih ?_ fun q hq => hu q (by simp [hq])
      rcases List.mem_cons.1 hj with e | e
      · exact absurd (by rw [← e]) hp
      · exact e
/-- What the generator must have done right; reckoned by the kernel. -/
def rgChk (ops : Array Oper) (pre : List (List (Nat × Nat))) : Bool :=
  (List.range ops.size).all fun i => match ops[i]?, pre[i]? with
    | some o, some l =>
      (match o.op with | .select .. => false | _ => true) &&
      (o.after.all fun e => !Region.binds .any e || Nat.blt e.on i) &&
      (l.all fun p => (match ops[p.2]? with | some q => q.dst == some p.1 | none => false) && o.after.any fun e => Region.binds .any e && (e.on == p.2 || (pre.getD e.on []).contains p)) &&
      ((o.looksAt ops).all fun t => (List.range ops.size).all fun j => (match ops[j]? with | some q => q.dst != some t | none => true) || l.contains (t, j)) &&
      ((List.range ops.size).all fun j => j == i || (match o.dst with | none => true | some t => match ops[j]? with | some q => q.dst != some t | none => true))
    | _, _ => false
structure RgOk (ops : Array Oper) (pre : List (List (Nat × Nat))) : Prop where
  sel : ∀ {i : Nat} {o : Oper}, ops[i]? = some o → ∀ cs b, o.op ≠ .select cs b
  down : ∀ {i : Nat} {o : Oper}, ops[i]? = some o → ∀ e ∈ o.after, Region.binds .any e = true → e.on < i
  dst : ∀ {i : Nat} {o : Oper}, ops[i]? = some o → ∀ p ∈ pre.getD i [], ∃ q, ops[p.2]? = some q ∧ q.dst = some p.1
  anc : ∀ {i : Nat} {o : Oper}, ops[i]? = some o → ∀ p ∈ pre.getD i [], ∃ e ∈ o.after, Region.binds .any e = true ∧ (e.on = p.2 ∨ p ∈ pre.getD e.on [])
  looks : ∀ {i : Nat} {o : Oper}, ops[i]? = some o → ∀ t ∈ o.looksAt ops, ∀ {j : Nat} {q : Oper}, ops[j]? = some q → q.dst = some t → (t, j) ∈ pre.getD i []
  one : ∀ {i j : Nat} {o q : Oper} {t : Nat}, ops[i]? = some o → ops[j]? = some q → o.dst = some t → q.dst = some t → j = i
theorem rgOk {pre : List (List (Nat × Nat))} (h : rgChk ops pre = true) : RgOk ops pre := by
  have key : ∀ {i : Nat} {o : Oper}, ops[i]? = some o → _ := fun {i o} ho => by
    have hi : i < ops.size := (Array.getElem?_eq_some_iff.1 ho).1
    have h1 := List.all_eq_true.1 h i (List.mem_range.2 hi)
    rw [ho] at h1
    exact h1
  have lt : ∀ {i : Nat} {o : Oper}, ops[i]? = some o → i < ops.size := fun {i o} ho => (Array.getElem?_eq_some_iff.1 ho).1
  refine ⟨fun {i o} ho cs b e => ?_, fun {i o} ho e he hb => ?_, fun {i o} ho p hp => ?_, fun {i o} ho p hp => ?_, fun {i o} ho t ht j q hq hd => ?_, fun {i j o q t} ho hq hd hd' => ?_⟩
  all_goals
    have h1 := key ho
    obtain ⟨l, hl⟩ : ∃ l, pre[i]? = some l := by
      cases hl : pre[i]? with
      | none => rw [hl] at h1; cases h1
      | some l => exact ⟨l, rfl⟩
    rw [hl] at h1
    have hg : pre.getD i [] = l := by rw [List.getD_eq_getElem?_getD, hl]; rfl
    simp only [Bool.and_eq_true] at h1
    obtain ⟨⟨⟨⟨s1, s2⟩, s3⟩, s4⟩, s5⟩ := h1
  · rw [e] at s1; cases s1
  · have := Array.all_eq_true_iff_forall_mem.1 s2 e he
    rw [hb] at this
    simpa [Nat.blt_eq] using this
  · rw [hg] at hp
    have := List.all_eq_true.1 s3 p hp
    rw [Bool.and_eq_true] at this
    cases hq : ops[p.2]? with
    | none => rw [hq] at this; cases this.1
    | some q => rw [hq] at this; exact ⟨q, rfl, by simpa using this.1⟩
  · rw [hg] at hp
    have := List.all_eq_true.1 s3 p hp
    rw [Bool.and_eq_true] at this
    obtain ⟨e, he, h2⟩ := Array.any_eq_true'.1 this.2
    rw [Bool.and_eq_true] at h2
    refine ⟨e, he, h2.1, ?_⟩
    rcases Bool.or_eq_true_iff.1 h2.2 with h3 | h3
    · exact .inl (by simpa using h3)
    · exact .inr (by simpa using h3)
  · rw [hg]
    have := List.all_eq_true.1 (List.all_eq_true.1 s4 t ht) j (List.mem_range.2 (lt hq))
    rw [hq] at this
    simp only [hd, bne_self_eq_false, Bool.false_or] at this
    simpa using this
  · have := List.all_eq_true.1 s5 j (List.mem_range.2 (lt hq))
    rw [hd, hq] at this
    simp only [hd', bne_self_eq_false, Bool.or_false] at this
    simpa using this
/-- The facts of some operations. -/
def Facts (R : Nat → Value → Γ → World → Prop) (vs : Nat → Value) (g : Γ) (w : World) : List (Nat × Nat) → Prop
  | [] => True
  | p :: r => R p.2 (vs p.2) g w ∧ Facts R vs g w r
theorem z1 {α : Type} {x d : α} {l : List α} {n : Nat} : (x :: l).getD (n + 1) d = l.getD n d := List.getD_cons_succ
theorem z2 {α : Type} {x d : α} {l : List α} : (x :: l).getD 0 d = x := List.getD_cons_zero
theorem z3 (l : List Value) (i : Nat) (x : Value) : l.toArray.setIfInBounds i x = (l.set i x).toArray := List.setIfInBounds_toArray ..
theorem z4 (a x : Value) (l : List Value) (n : Nat) : (a :: l).set (n + 1) x = a :: l.set n x := List.set_cons_succ ..
theorem z5 (a x : Value) (l : List Value) : (a :: l).set 0 x = x :: l := List.set_cons_zero ..
theorem facts_of {R : Nat → Value → Γ → World → Prop} {vs : Nat → Value} {g : Γ} {w : World} {l : List (Nat × Nat)} (h : ∀ p ∈ l, R p.2 (vs p.2) g w) : Facts R vs g w l := by
  induction l with
  | nil => trivial
  | cons p r ih => exact ⟨h p (by simp), ih fun q hq => h q (by simp [hq])⟩
/-- One operation, from whatever state it may come up in. -/
def StepAt (P : Program) (ops : Array Oper) (Q : Exit → Act → World → Prop) (a0 : Act) (pre : List (List (Nat × Nat))) (I : Γ → World → Prop) (R : Nat → Value → Γ → World → Prop) (G : Nat → Γ → World → Γ → World → Prop) (F : Nat → Γ → Prop) (o : Oper) (i : Nat) : Prop :=
  ∀ vs g w, I g w → F i g → Facts R vs g w (pre.getD i []) → ∀ K : Act → World → Prop, (∀ v g' w', I g' w' → G i g w g' w' → R i v g' w' → K ((fill a0 vs (pre.getD i [])).put o.dst v) w') →
    if Region.wanted o (yielded ops (fill a0 vs (pre.getD i [])).tmps) = true then Oper.wp P o (fill a0 vs (pre.getD i [])) w K (NoPanic Q) else K ((fill a0 vs (pre.getD i [])).put o.dst undef) w
def StepsL (P : Program) (ops : Array Oper) (Q : Exit → Act → World → Prop) (a0 : Act) (pre : List (List (Nat × Nat))) (I : Γ → World → Prop) (R : Nat → Value → Γ → World → Prop) (G : Nat → Γ → World → Γ → World → Prop) (F : Nat → Γ → Prop) : List Oper → Nat → Prop
  | [], _ => True
  | o :: r, i => StepAt P ops Q a0 pre I R G F o i ∧ StepsL P ops Q a0 pre I R G F r (i + 1)
theorem stepsL_at {a0 : Act} {pre : List (List (Nat × Nat))} {I : Γ → World → Prop} {R : Nat → Value → Γ → World → Prop} {G : Nat → Γ → World → Γ → World → Prop} {F : Nat → Γ → Prop} :
    ∀ {l : List Oper} {k : Nat}, StepsL P ops Q a0 pre I R G F l k → ∀ {i : Nat} {o : Oper}, l[i]? = some o → StepAt P ops Q a0 pre I R G F o (k + i)
  | [], _, _, _, _, h => by simp at h
  | o' :: r, k, hs, 0, o, h => by
    simp at h; subst h; exact hs.1
  | o' :: r, k, hs, i + 1, o, h => by
    have := stepsL_at (l := r) hs.2 (i := i) (o := o) (by simpa using h)
    rw [show k + 1 + i = k + (i + 1) by omega] at this
    exact this
/-- What holds when the operations L have come up. -/
structure Held (ops : Array Oper) (a0 : Act) (pre : List (List (Nat × Nat))) (I : Γ → World → Prop) (R : Nat → Value → Γ → World → Prop) (F : Nat → Γ → Prop) (L : Nat → Bool) (vs : Nat → Value) (g : Γ) (a : Act) (w : World) : Prop where
  inv : I g w
  fact : ∀ i, i < ops.size → L i = true → R i (vs i) g w
  todo : ∀ i, L i = false → F i g
  closed : ∀ i, L i = true → ∀ p ∈ pre.getD i [], L p.2 = true
  defers : a.defers = a0.defers
  size : a.tmps.size = a0.tmps.size
  slot : ∀ t i o, ops[i]? = some o → o.dst = some t → L i = true → t < a0.tmps.size → a.tmps[t]? = some (vs i)
  rest : ∀ t, (∀ i o, ops[i]? = some o → o.dst = some t → L i = false) → a.tmps[t]? = a0.tmps[t]?
theorem put_get {a : Act} {dst : Option Nat} {v : Value} {t : Nat} (h : dst ≠ some t) : (a.put dst v).tmps[t]? = a.tmps[t]? := by
  cases dst with
  | none => rfl
  | some d => simp only [Act.put]; rw [Array.getElem?_setIfInBounds_ne (fun e => h (by rw [e]))]
theorem put_size {a : Act} {dst : Option Nat} {v : Value} : (a.put dst v).tmps.size = a.tmps.size := by cases dst <;> simp [Act.put]
theorem put_put {a : Act} {dst : Option Nat} {v : Value} : (a.put dst v).defers = a.defers := by cases dst <;> rfl
theorem put_inj {a b : Act} {dst : Option Nat} {u v : Value} (hs : a.tmps.size = b.tmps.size) (h : b.put dst u = b.put dst v) : a.put dst u = a.put dst v := by
  cases dst with
  | none => rfl
  | some d =>
    by_cases hd : d < b.tmps.size
    · have h1 := congrArg (fun x : Act => x.tmps[d]?) h
      simp only [Act.put] at h1
      rw [Array.getElem?_setIfInBounds_self_of_lt hd, Array.getElem?_setIfInBounds_self_of_lt hd] at h1
      injection h1 with h1; rw [h1]
    · simp only [Act.put]
      rw [Array.setIfInBounds_eq_of_size_le (by omega), Array.setIfInBounds_eq_of_size_le (by omega)]
theorem held_step {a0 : Act} {pre : List (List (Nat × Nat))} {I : Γ → World → Prop} {R : Nat → Value → Γ → World → Prop} {G : Nat → Γ → World → Γ → World → Prop} {F : Nat → Γ → Prop} (hk : RgOk ops pre)
    (hst : ∀ i j v g w g' w', i ≠ j → i < ops.size → R i v g w → G j g w g' w' → R i v g' w') (hF : ∀ i j g w g' w', i ≠ j → F i g → G j g w g' w' → F i g')
    {i : Nat} {o : Oper} (ho : ops[i]? = some o) (hs : StepAt P ops Q a0 pre I R G F o i) {L : Nat → Bool} {vs : Nat → Value} {g : Γ} {a : Act} {w : World} (h : Held ops a0 pre I R F L vs g a w)
    (hi : L i = false) (hready : ∀ e ∈ o.after, Region.binds .any e = true → L e.on = true) :
    wpOp P ops (NoPanic Q) i (fun a' w' => ∃ vs' g', Held ops a0 pre I R F (fun j => j == i || L j) vs' g' a' w') a w := by
  have hpre : ∀ p ∈ pre.getD i [], L p.2 = true := fun p hp => by
    obtain ⟨e, he, hb, h1⟩ := hk.anc ho p hp
    rcases h1 with h1 | h1
    · rw [← h1]; exact hready e he hb
    · exact h.closed _ (hready e he hb) p h1
  have hlt : ∀ {i : Nat} {o : Oper}, ops[i]? = some o → i < ops.size := fun {i o} ho => (Array.getElem?_eq_some_iff.1 ho).1
  have hfacts : Facts R vs g w (pre.getD i []) := facts_of fun p hp => by
    obtain ⟨q, hq, _⟩ := hk.dst ho p hp
    exact h.fact _ (hlt hq) (hpre p hp)
  -- the two frames agree wherever the operation looks
  have hsame : ∀ t ∈ o.looksAt ops, a.tmps[t]? = (fill a0 vs (pre.getD i [])).tmps[t]? := fun t ht => by
    by_cases hw : ∃ (j : Nat) (q : Oper), ops[j]? = some q ∧ q.dst = some t
    · obtain ⟨j, q, hq, hd⟩ := hw
      have hin := hk.looks ho t ht hq hd
      by_cases hts : t < a0.tmps.size
      · rw [h.slot t j q hq hd (hpre _ hin) hts, fill_in a0 vs _ t j hin (fun p hp he => by
          obtain ⟨q', hq', hd'⟩ := hk.dst ho p hp
          exact hk.one hq hq' hd (by rw [hd', he])) hts]
      · rw [Array.getElem?_eq_none (by rw [h.size]; exact Nat.le_of_not_lt hts), Array.getElem?_eq_none (by rw [fill_size]; exact Nat.le_of_not_lt hts)]
    · rw [h.rest t (fun j q hq hd => absurd ⟨j, q, hq, hd⟩ hw), fill_out a0 vs _ t (fun p hp he => by
        obtain ⟨q', hq', hd'⟩ := hk.dst ho p hp
        exact hw ⟨_, q', hq', by rw [hd', he]⟩)]
  have hev : execOp a.eval o = execOp (fill a0 vs (pre.getD i [])).eval o := execOp_congr o (hk.sel ho) fun x hx => by
    cases x with
    | tmp t =>
      have := hsame t (List.mem_append_left _ (List.mem_filterMap.2 ⟨.tmp t, by simpa using hx, rfl⟩))
      simp only [Act.eval, Array.getD_eq_getD_getElem?, this]
    | _ => rfl
  have hwa : Region.wanted o (yielded ops a.tmps) = Region.wanted o (yielded ops (fill a0 vs (pre.getD i [])).tmps) := by
    unfold Region.wanted
    cases hg : o.guard with
    | none => rfl
    | some gw =>
      obtain ⟨gi, want⟩ := gw
      have hy : yielded ops a.tmps gi = yielded ops (fill a0 vs (pre.getD i [])).tmps gi := by
        unfold yielded
        cases ht : (ops[gi]?).bind (·.dst) with
        | none => rfl
        | some t =>
          have := hsame t (by simp [Oper.looksAt, hg, ht])
          simp only [Option.bind_some, this]
      simp only [hy]
  -- what follows
  have next : ∀ v g' w', I g' w' → G i g w g' w' → R i v g' w' → ∃ vs' g'', Held ops a0 pre I R F (fun j => j == i || L j) vs' g'' (a.put o.dst v) w' := fun v g' w' h1 h2 h3 => by
    refine ⟨fun j => if j = i then v else vs j, g', ⟨h1, fun j hj hl => ?_, fun j hl => ?_, fun j hl p hp => ?_, put_put.trans h.defers, put_size.trans h.size, fun t j q hq hd hl ht => ?_, fun t hall => ?_⟩⟩
    · by_cases e : j = i
      · subst e; simp only [if_true]; exact h3
      · simp only [if_neg e]
        have hl' : L j = true := by simpa [e] using hl
        exact hst j i _ _ _ _ _ e hj (h.fact j hj hl') h2
    · have e : j ≠ i := fun e => by simp [e] at hl
      exact hF j i _ _ _ _ e (h.todo j (by simpa [e] using hl)) h2
    · by_cases e : j = i
      · subst e; simp [hpre p hp]
      · have hl' : L j = true := by simpa [e] using hl
        simp [h.closed j hl' p hp]
    · by_cases e : j = i
      · subst e
        rw [ho] at hq
        injection hq with hq
        subst hq
        simp only [if_true, hd, Act.put]
        rw [Array.getElem?_setIfInBounds_self_of_lt (by rw [h.size]; exact ht)]
      · have hl' : L j = true := by simpa [e] using hl
        simp only [if_neg e]
        rw [put_get (fun hd' => e (hk.one ho hq hd' hd))]
        exact h.slot t j q hq hd hl' ht
    · have hne : o.dst ≠ some t := fun hd => by simpa using hall i o ho hd
      rw [put_get hne]
      exact h.rest t fun j q hq hd => by
        have := hall j q hq hd
        simp at this
        exact this.2
  have hstep := hs vs g w h.inv (h.todo i hi) hfacts (fun a' w' => ∃ v, a' = (fill a0 vs (pre.getD i [])).put o.dst v ∧ ∃ vs' g'', Held ops a0 pre I R F (fun j => j == i || L j) vs' g'' (a.put o.dst v) w')
    (fun v g' w' h1 h2 h3 => ⟨v, rfl, next v g' w' h1 h2 h3⟩)
  have hsz : a.tmps.size = (fill a0 vs (pre.getD i [])).tmps.size := by rw [fill_size]; exact h.size
  unfold wpOp
  simp only [ho]
  rw [hwa]
  split
  · rename_i hw
    rw [if_pos hw] at hstep
    refine .inl ?_
    unfold Oper.wp at *
    rw [hev]
    generalize (execOp (fill a0 vs (pre.getD i [])).eval o).run P w = r at *
    cases r with
    | ok n w' =>
      cases n <;> simp only [Oper.upon] at hstep ⊢
      case value u =>
        obtain ⟨v, e, hv⟩ := hstep
        rw [put_inj hsz e]; exact hv
      case skip =>
        obtain ⟨v, e, hv⟩ := hstep
        rw [put_inj hsz e]; exact hv
      case defer d =>
        obtain ⟨v, e, _⟩ := hstep
        have := congrArg Act.defers e
        rw [put_put, put_put] at this
        simp at this
      case enter f args =>
        refine Calls.mono hstep fun e w'' he => ?_
        cases e with
        | returned u =>
          obtain ⟨v, e, hv⟩ := he
          show ∃ vs' g', Held ops a0 pre I R F (fun j => j == i || L j) vs' g' (a.put o.dst u) w''
          rw [put_inj hsz e]; exact hv
        | panicked c => exact he
        | outgrown => exact he
      case row row args =>
        refine Rows.mono hstep fun u w'' he => ?_
        obtain ⟨v, e, hv⟩ := he
        show ∃ vs' g', Held ops a0 pre I R F (fun j => j == i || L j) vs' g' (a.put o.dst u) w''
        rw [put_inj hsz e]; exact hv
      all_goals exact hstep
    | halt x w' =>
      cases x <;> simp only [Oper.upon] at hstep ⊢ <;> exact hstep
  · rename_i hw
    rw [if_neg hw] at hstep
    obtain ⟨v, e, hv⟩ := hstep
    rw [put_inj hsz e]; exact hv
/-- How many are still to come. -/
def cntF (n : Nat) (L : Nat → Bool) : Nat := (List.range n).countP fun i => !L i
theorem cntF_le {n : Nat} {L L' : Nat → Bool} (h : ∀ i, L i = true → L' i = true) : cntF n L' ≤ cntF n L := by
  refine List.countP_mono_left fun x _ hx => ?_
  cases hL : L x with
  | false => rfl
  | true => simp [h x hL] at hx
theorem cntF_step {n i : Nat} {L : Nat → Bool} (hi : i < n) (h : L i = false) : cntF n (fun j => j == i || L j) + 1 ≤ cntF n L := by
  induction n with
  | zero => omega
  | succ n ih =>
    unfold cntF at *
    rw [List.range_succ, List.countP_append, List.countP_append]
    simp only [List.countP_singleton]
    by_cases e : i = n
    · subst e
      have h2 : List.countP (fun j => !(j == i || L j)) (List.range i) ≤ List.countP (fun j => !L j) (List.range i) := cntF_le (n := i) (L := L) (L' := fun j => j == i || L j) (fun j hj => by simp [hj])
      have e1 : (if (!(i == i || L i)) = true then 1 else 0) = 0 := by simp
      have e2 : (if (!L i) = true then 1 else 0) = 1 := by simp [h]
      rw [e1, e2]
      exact Nat.add_le_add_right h2 1
    · have h2 : List.countP (fun j => !(j == i || L j)) (List.range n) + 1 ≤ List.countP (fun j => !L j) (List.range n) := ih (by omega)
      have e' : (n == i) = false := by rw [beq_eq_false_iff_ne]; omega
      rw [e', Bool.false_or]
      omega
theorem cntF_zero {n : Nat} {L : Nat → Bool} (h : cntF n L = 0) : ∀ i, i < n → L i = true := fun i hi => by
  unfold cntF at h
  rw [List.countP_eq_zero] at h
  have := h i (List.mem_range.2 hi)
  simpa using this
theorem held_done {a0 : Act} {pre : List (List (Nat × Nat))} {I : Γ → World → Prop} {R : Nat → Value → Γ → World → Prop} {F : Nat → Γ → Prop} {all : List (Nat × Nat)} (hk : RgOk ops pre)
    (hall : ∀ i o t, ops[i]? = some o → o.dst = some t → (t, i) ∈ all) (hall2 : ∀ p ∈ all, ∃ o, ops[p.2]? = some o ∧ o.dst = some p.1)
    {L : Nat → Bool} {vs : Nat → Value} {g : Γ} {a : Act} {w : World} (h : Held ops a0 pre I R F L vs g a w) (hL : ∀ i, i < ops.size → L i = true) : a = fill a0 vs all := by
  have hlt : ∀ {i : Nat} {o : Oper}, ops[i]? = some o → i < ops.size := fun {i o} ho => (Array.getElem?_eq_some_iff.1 ho).1
  have e : a.tmps = (fill a0 vs all).tmps := by
    refine Array.ext_getElem? fun t => ?_
    by_cases hw : ∃ (j : Nat) (q : Oper), ops[j]? = some q ∧ q.dst = some t
    · obtain ⟨j, q, hq, hd⟩ := hw
      by_cases hts : t < a0.tmps.size
      · rw [h.slot t j q hq hd (hL j (hlt hq)) hts, fill_in a0 vs _ t j (hall j q t hq hd) (fun p hp he => by
          obtain ⟨q', hq', hd'⟩ := hall2 p hp
          exact hk.one hq hq' hd (by rw [hd', he])) hts]
      · rw [Array.getElem?_eq_none (by rw [h.size]; omega), Array.getElem?_eq_none (by rw [fill_size]; omega)]
    · rw [h.rest t (fun j q hq hd => absurd ⟨j, q, hq, hd⟩ hw), fill_out a0 vs _ t (fun p hp he => by
        obtain ⟨q', hq', hd'⟩ := hall2 p hp
        exact hw ⟨_, q', hq', by rw [hd', he]⟩)]
  have ed : a.defers = (fill a0 vs all).defers := by rw [fill_defers]; exact h.defers
  cases a
  cases hf : fill a0 vs all
  rw [hf] at e ed
  simp only at e ed
  rw [e, ed]
def allChk (ops : Array Oper) (all : List (Nat × Nat)) : Bool :=
  ((List.range ops.size).all fun i => match ops[i]? with | some o => (match o.dst with | some t => all.contains (t, i) | none => true) | none => false) &&
  (all.all fun p => match ops[p.2]? with | some o => o.dst == some p.1 | none => false)
theorem allOk {all : List (Nat × Nat)} (h : allChk ops all = true) : (∀ (i : Nat) (o : Oper) (t : Nat), ops[i]? = some o → o.dst = some t → (t, i) ∈ all) ∧ (∀ p ∈ all, ∃ o, ops[p.2]? = some o ∧ o.dst = some p.1) := by
  unfold allChk at h
  rw [Bool.and_eq_true] at h
  refine ⟨fun i o t ho hd => ?_, fun p hp => ?_⟩
  · have := List.all_eq_true.1 h.1 i (List.mem_range.2 (Array.getElem?_eq_some_iff.1 ho).1)
    rw [ho] at this
    simp only [hd] at this
    simpa using this
  · have := List.all_eq_true.1 h.2 p hp
    cases hq : ops[p.2]? with
    | none => rw [hq] at this; cases this
    | some q => rw [hq] at this; exact ⟨q, rfl, by simpa using this⟩
/-- All that a region asks: its facts, and each operation's step. -/
structure Plan (P : Program) (ops : Array Oper) (Q : Exit → Act → World → Prop) (a0 : Act) (Γ : Type) (g0 : Γ) (w0 : World) where
  pre : List (List (Nat × Nat))
  all : List (Nat × Nat)
  I : Γ → World → Prop
  R : Nat → Value → Γ → World → Prop
  G : Nat → Γ → World → Γ → World → Prop
  F : Nat → Γ → Prop
  chk : rgChk ops pre = true
  chk2 : allChk ops all = true
  st : ∀ i j v g w g' w', i ≠ j → i < ops.size → R i v g w → G j g w g' w' → R i v g' w'
  stF : ∀ i j g w g' w', i ≠ j → F i g → G j g w g' w' → F i g'
  start : I g0 w0
  startF : ∀ i, F i g0
  steps : StepsL P ops Q a0 pre I R G F ops.toList 0
  fin : ∀ vs g w, I g w → (∀ i, i < ops.size → R i (vs i) g w) → Q .normal (fill a0 vs all) w
theorem Plan.held {a0 : Act} {g0 : Γ} {w0 : World} (p : Plan P ops Q a0 Γ g0 w0) {L : Nat → Bool} (hL : ∀ i, L i = false) : Held ops a0 p.pre p.I p.R p.F L (fun _ => undef) g0 a0 w0 :=
  ⟨p.start, fun i _ h => absurd h (by rw [hL i]; decide), fun i _ => p.startF i, fun i h => absurd h (by rw [hL i]; decide), rfl, rfl, fun t i o _ _ h => absurd h (by rw [hL i]; decide), fun _ _ => rfl⟩
theorem Plan.stepAt {a0 : Act} {g0 : Γ} {w0 : World} (p : Plan P ops Q a0 Γ g0 w0) {i : Nat} {o : Oper} (ho : ops[i]? = some o) : StepAt P ops Q a0 p.pre p.I p.R p.G p.F o i := by
  have := stepsL_at p.steps (i := i) (o := o) (by simpa using ho)
  rwa [Nat.zero_add] at this
theorem Plan.any {a0 : Act} {g0 : Γ} {w0 : World} (p : Plan P ops Q a0 Γ g0 w0) : ∀ (fuel : Nat) (listed : Array Bool) (vs : Nat → Value) (g : Γ) (a : Act) (w : World), listed.size = ops.size → cntF ops.size (fun i => listed.getD i false) ≤ fuel →
    Held ops a0 p.pre p.I p.R p.F (fun i => listed.getD i false) vs g a w → wpAny P .any ops (NoPanic Q) fuel listed a w := by
  have hk := rgOk p.chk
  have done : ∀ (listed : Array Bool) (vs : Nat → Value) (g : Γ) (a : Act) (w : World), Held ops a0 p.pre p.I p.R p.F (fun i => listed.getD i false) vs g a w → (∀ i, i < ops.size → listed.getD i false = true) → NoPanic Q .normal a w := fun listed vs g a w h hall => by
    rw [held_done hk (allOk p.chk2).1 (allOk p.chk2).2 h hall]
    exact p.fin vs g w h.inv fun i hi => h.fact i hi (hall i hi)
  have noReady : ∀ listed : Array Bool, listed.size = ops.size → Region.ready .any ops listed = [] → ∀ i, i < ops.size → listed.getD i false = true := fun listed hsz hr i => by
    induction i using Nat.strongRecOn with
    | ind i ih =>
      intro hi
      cases hl : listed.getD i false with
      | true => rfl
      | false =>
        have ho : ops[i]? = some ops[i] := Array.getElem?_eq_getElem hi
        have hm : i ∈ Region.ready .any ops listed := mem_ready.2 ⟨by
          simp [Array.getD_eq_getD_getElem?, Array.getElem?_eq_getElem (show i < listed.size by omega)] at hl ⊢; exact hl, ops[i], ho, fun e he hb => by
          have hd := hk.down ho e he hb
          exact ih e.on hd (by omega)⟩
        rw [hr] at hm; cases hm
  intro fuel
  induction fuel with
  | zero =>
    intro listed vs g a w hsz hc h
    have hall := cntF_zero (Nat.le_zero.1 hc)
    refine ⟨?_, done listed vs g a w h hall⟩
    cases hr : Region.ready .any ops listed with
    | nil => rfl
    | cons x r =>
      have hx : x ∈ Region.ready .any ops listed := by rw [hr]; simp
      obtain ⟨h0, o, ho, _⟩ := mem_ready.1 hx
      have := hall x (Array.getElem?_eq_some_iff.1 ho).1
      have hlt : x < listed.size := by rw [hsz]; exact (Array.getElem?_eq_some_iff.1 ho).1
      simp [Array.getD_eq_getD_getElem?, Array.getElem?_eq_getElem hlt] at h0 this
      rw [h0] at this; cases this
  | succ fuel ih =>
    intro listed vs g a w hsz hc h
    refine ⟨fun hr => done listed vs g a w h (noReady listed hsz hr), fun i hi => ?_⟩
    obtain ⟨h0, o, ho, hall⟩ := mem_ready.1 hi
    have hlt : i < listed.size := by rw [hsz]; exact (Array.getElem?_eq_some_iff.1 ho).1
    have h0' : listed.getD i false = false := by
      simp [Array.getD_eq_getD_getElem?, Array.getElem?_eq_getElem hlt] at h0 ⊢; exact h0
    refine wpOp_mono (fun a' w' hh => ?_) (held_step hk p.st p.stF ho (p.stepAt ho) h h0' hall)
    obtain ⟨vs', g', hh⟩ := hh
    have hfun : (fun j => (listed.setIfInBounds i true).getD j false) = fun j => j == i || listed.getD j false := funext fun j => by
      by_cases e : j = i
      · subst e
        simp [Array.getD_eq_getD_getElem?, Array.getElem?_setIfInBounds_self_of_lt hlt]
      · rw [getD_set_ne false (Ne.symm e)]
        simp [e]
    refine ih _ vs' g' a' w' (by simp [hsz]) ?_ (by rw [hfun]; exact hh)
    rw [hfun]
    have := cntF_step (n := ops.size) (i := i) (L := fun j => listed.getD j false) (by omega) h0'
    omega
/-- A region of whatever order. -/
theorem region_plan {id : Nat} {a0 : Act} {w0 : World} {g0 : Γ} (hm : P.follows .mixedOrders = true) (p : Plan P ops Q a0 Γ g0 w0.drew) : (Code.region id ops true).wp P Q a0 w0 := by
  refine wp_region_noPanic (wp_region_any hm ?_)
  refine p.any ops.size (Array.replicate ops.size false) (fun _ => undef) g0 a0 _ (by simp) ?_ (p.held fun i => ?_)
  · exact Nat.le_trans List.countP_le_length (by simp)
  · by_cases h : i < ops.size
    · simp [Array.getD_eq_getD_getElem?, h]
    · simp [Array.getD_eq_getD_getElem?, h]
/-- A region in the text's order. -/
theorem region_plan0 {id : Nat} {a0 : Act} {w0 : World} {g0 : Γ} (p : Plan P ops Q a0 Γ g0 w0) : (Code.region id ops false).wp P Q a0 w0 := by
  refine wp_region_noPanic (wp_region ?_)
  have hk := rgOk p.chk
  have key : ∀ (m k : Nat) (vs : Nat → Value) (g : Γ) (a : Act) (w : World), k + m = ops.size → Held ops a0 p.pre p.I p.R p.F (fun i => decide (i < k)) vs g a w → wpOps P ops (NoPanic Q) (List.range' k m) a w := by
    intro m
    induction m with
    | zero =>
      intro k vs g a w hkm h
      show Q .normal a w
      rw [held_done hk (allOk p.chk2).1 (allOk p.chk2).2 h (fun i hi => by simp; omega)]
      exact p.fin vs g w h.inv fun i hi => h.fact i hi (by simp; omega)
    | succ m ih =>
      intro k vs g a w hkm h
      rw [List.range'_succ, wpOps_cons]
      have hlt : k < ops.size := by omega
      have ho : ops[k]? = some ops[k] := Array.getElem?_eq_getElem hlt
      refine wpOp_mono (fun a' w' hh => ?_) (held_step hk p.st p.stF ho (p.stepAt ho) h (by simp) (fun e he hb => by
        have := hk.down ho e he hb
        simpa using this))
      obtain ⟨vs', g', hh⟩ := hh
      have hfun : (fun j => decide (j < k + 1)) = fun j => j == k || decide (j < k) := funext fun j => by
        rw [Bool.eq_iff_iff]
        simp
        omega
      exact ih (k + 1) vs' g' a' w' (by omega) (by rw [hfun]; exact hh)
  rw [List.range_eq_range']
  exact key ops.size 0 (fun _ => undef) g0 a0 w0 (by omega) (p.held fun i => by simp)
end
end Go.Proofs.YthmkllpdkcmccaaGreatDoor
/- Boxes that a region makes and stores into once, beside calls that make memory: what its operations keep. No program is named here. -/
namespace Go.Proofs.YthmkllpdkcmccaaGreatDoor
open Go.RowKit
set_option maxRecDepth 100000
set_option linter.unusedVariables false
set_option linter.unusedSimpArgs false

/-- Which block an operation has made. -/
abbrev Gh := Nat → Option Nat
/-- No box of the region. -/
def Off (g : Gh) (b : Nat) : Prop := ∀ i, g i ≠ some b
/-- Where a region stands: the world at the function's beginning, that at the region's, and the boxes that stood already (1000 and on: the results'; 2000 and on: the callers'). -/
structure Ctx where
  W0 : World
  W : World
  g0 : Gh
/-- The world at hand. -/
structure RInv (c : Ctx) (g : Gh) (w : World) : Prop where
  below : Below c.W0.heap.size c.W0 w
  size : c.W.heap.size ≤ w.heap.size
  old : ∀ b, b < c.W.heap.size → Off g b → w.heap[b]? = c.W.heap[b]?
  keep0 : ∀ i k, c.g0 i = some k → g i = some k
  new : ∀ i k, g i = some k → c.g0 i = some k ∨ c.W.heap.size ≤ k
  lt : ∀ i k, g i = some k → k < w.heap.size
  base : ∀ i k, i < 2000 → g i = some k → c.W0.heap.size ≤ k
  inj : ∀ i j k, g i = some k → g j = some k → i = j
  box0 : ∀ i k n, c.g0 i = some k → HasBox c.W k n → HasBox w k n
/-- What operation j does; st tells which operation stores into a box. -/
structure Step (st : Nat → Option Nat) (j : Nat) (g : Gh) (w : World) (g' : Gh) (w' : World) : Prop where
  size : w.heap.size ≤ w'.heap.size
  frame : ∀ k, k < w.heap.size → (∀ i, st i = some j → g i ≠ some k) → w'.heap[k]? = w.heap[k]?
  keep : ∀ i k, g i = some k → g' i = some k
  new : ∀ i k, g' i = some k → g i = some k ∨ (i = j ∧ w.heap.size ≤ k)
  box : ∀ i k n, g i = some k → HasBox w k n → HasBox w' k n
  inj : ∀ i i' k, g i = some k → g i' = some k → i = i'
/-- What the boxes at a region's beginning must meet. -/
structure Ctx.Ok (c : Ctx) : Prop where
  below : Below c.W0.heap.size c.W0 c.W
  lt : ∀ i k, c.g0 i = some k → k < c.W.heap.size
  base : ∀ i k, i < 2000 → c.g0 i = some k → c.W0.heap.size ≤ k
  inj : ∀ i j k, c.g0 i = some k → c.g0 j = some k → i = j
  free : ∀ i, i < 1000 → c.g0 i = none
theorem Ctx.ok_none {w W : World} (hb : Below w.heap.size w W) : Ctx.Ok ⟨w, W, fun _ => none⟩ := ⟨hb, fun _ _ h => (by cases h), fun _ _ _ h => (by cases h), fun _ _ _ h => (by cases h), fun _ _ => rfl⟩
theorem RInv.start {c : Ctx} (h : c.Ok) : RInv c c.g0 c.W.drew := ⟨below_drewN' h.below 1, Nat.le_refl _, fun _ _ _ => rfl, fun _ _ h => h, fun _ _ h => .inl h, h.lt, h.base, h.inj, fun _ _ _ _ h => h⟩
theorem RInv.start0 {c : Ctx} (h : c.Ok) : RInv c c.g0 c.W := ⟨h.below, Nat.le_refl _, fun _ _ _ => rfl, fun _ _ h => h, fun _ _ h => .inl h, h.lt, h.base, h.inj, fun _ _ _ _ h => h⟩
/-- A cell that stood at the region's beginning, off the boxes. -/
theorem RInv.cell {c : Ctx} {g : Gh} {w : World} (hI : RInv c g w) {p : Addr} {v : Value} (h : c.W.cell? p = some v) (ho : Off c.g0 p.block) : w.cell? p = some v := by
  have hlt := World.block_lt_of_cell? c.W p h
  exact (World.cell?_of_block (hI.old p.block hlt (fun i e => by
    rcases hI.new i _ e with h1 | h1
    · exact ho i h1
    · omega))).trans h
/-- The next region's beginning. -/
theorem RInv.next {w0 W : World} {g0 g : Gh} {w : World} (hI : RInv ⟨w0, W, g0⟩ g w) (h : Ctx.Ok ⟨w0, W, g0⟩) : Ctx.Ok ⟨w0, w, g0⟩ :=
  ⟨hI.below, fun i k e => Nat.lt_of_lt_of_le (h.lt i k e) hI.size, h.base, h.inj, h.free⟩
/-- A box that a region made was none of those that stood. -/
theorem RInv.off_new {c : Ctx} {g : Gh} {w : World} {i k : Nat} (hI : RInv c g w) (hc : c.Ok) (hi : i < 1000) (hk : g i = some k) : Off c.g0 k := fun j e => by
  have h1 := hc.lt j k e
  rcases hI.new i k hk with h2 | h2
  · rw [hc.free i hi] at h2; cases h2
  · exact absurd h1 (Nat.not_lt.mpr h2)
theorem Step.none_ {st : Nat → Option Nat} {i j : Nat} {g : Gh} {w : World} {g' : Gh} {w' : World} (hij : i ≠ j) (h : g i = none) (hs : Step st j g w g' w') : g' i = none := by
  cases hg : g' i with
  | none => rfl
  | some k =>
    rcases hs.new i k hg with h1 | ⟨h1, _⟩
    · rw [h] at h1; cases h1
    · exact absurd h1 hij
theorem Step.off {st : Nat → Option Nat} {j : Nat} {g : Gh} {w : World} {g' : Gh} {w' : World} (hs : Step st j g w g' w') {b : Nat} (hb : b < w.heap.size) (h : Off g b) : Off g' b := fun i e => by
  rcases hs.new i b e with h1 | ⟨_, h1⟩
  · exact h i h1
  · omega
theorem Step.block {st : Nat → Option Nat} {j : Nat} {g : Gh} {w : World} {g' : Gh} {w' : World} (hs : Step st j g w g' w') {b : Nat} (hb : b < w.heap.size) (h : Off g b) : w'.heap[b]? = w.heap[b]? :=
  hs.frame b hb fun i _ => h i
theorem SlR.step {st : Nat → Option Nat} {j : Nat} {g : Gh} {w : World} {g' : Gh} {w' : World} {k : IntKind} {A : Option Addr} {ds : List Int} (h : SlR w (Off g) k A ds) (hs : Step st j g w g' w') : SlR w' (Off g') k A ds := fun hl => by
  obtain ⟨b, off, e, hS, hc⟩ := h hl
  have hlt := lt_of_cell (hc 0 _ (List.getElem?_eq_getElem hl))
  exact ⟨b, off, e, hs.off hlt hS, fun i d hd => (World.cell?_of_block (hs.block hlt hS)).trans (hc i d hd)⟩
theorem SlR.off {w w' : World} {c : Ctx} {g : Gh} {k : IntKind} {A : Option Addr} {ds : List Int} (h : SlR w' (fun b => w.heap.size ≤ b) k A ds) (hI : RInv c g w) : SlR w' (Off g) k A ds :=
  h.imp fun b hb i e => by have := hI.lt i b e; omega
/-- A box that was made. -/
def PtrR (i n : Nat) (v : Value) (g : Gh) (w : World) : Prop := ∃ k, v = .pointer (some ⟨k, 0, none⟩) ∧ g i = some k ∧ HasBox w k n
theorem PtrR.step {st : Nat → Option Nat} {j i n : Nat} {v : Value} {g : Gh} {w : World} {g' : Gh} {w' : World} (h : PtrR i n v g w) (hs : Step st j g w g' w') : PtrR i n v g' w' := by
  obtain ⟨k, e, hk, hb⟩ := h
  exact ⟨k, e, hs.keep i k hk, hs.box i k n hk hb⟩
/-- The cells of a box that was stored into. -/
def CellsAt (w : World) (k : Nat) (cs : List Value) : Prop := ∀ o v, cs[o]? = some v → w.cell? ⟨k, o, none⟩ = some v
theorem CellsAt.step {st : Nat → Option Nat} {j s i k : Nat} {cs : List Value} {g : Gh} {w : World} {g' : Gh} {w' : World} (h : CellsAt w k cs) (hs : Step st j g w g' w') (hk : g i = some k) (hlt : k < w.heap.size) (hst : st i = some s) (hj : s ≠ j) : CellsAt w' k cs := fun o v hv =>
  (World.cell?_of_block (hs.frame k hlt (fun i' h' e => by
    have := hs.inj i i' k hk e
    subst this
    rw [hst] at h'
    injection h' with h'
    exact hj h'))).trans (h o v hv)
theorem Step.refl {st : Nat → Option Nat} {j : Nat} {c : Ctx} {g : Gh} {w : World} (hI : RInv c g w) : Step st j g w g w := ⟨Nat.le_refl _, fun _ _ _ => rfl, fun _ _ h => h, fun _ _ h => .inl h, fun _ _ _ _ h => h, hI.inj⟩
theorem Step.call {st : Nat → Option Nat} {j : Nat} {c : Ctx} {g : Gh} {w w' : World} (hI : RInv c g w) (hb : Below w.heap.size w w') : Step st j g w g w' :=
  ⟨hb.size, fun k hk _ => hb.block k hk, fun _ _ h => h, fun _ _ h => .inl h, fun _ _ _ _ h => h.next hb, hI.inj⟩
theorem RInv.call {c : Ctx} {g : Gh} {w w' : World} (hI : RInv c g w) (hb : Below w.heap.size w w') : RInv c g w' :=
  ⟨hI.below.trans (hb.mono hI.below.size), Nat.le_trans hI.size hb.size, fun b h ho => (hb.block b (Nat.lt_of_lt_of_le h hI.size)).trans (hI.old b h ho), hI.keep0, hI.new, fun i k h => Nat.lt_of_lt_of_le (hI.lt i k h) hb.size, hI.base, hI.inj, fun i k n h hx => (hI.box0 i k n h hx).next hb⟩
/-- The boxes with one more. -/
def more (g : Gh) (j k : Nat) : Gh := fun i => if i = j then some k else g i
theorem more_at (g : Gh) (j k : Nat) : more g j k j = some k := if_pos rfl
theorem Step.alloc {st : Nat → Option Nat} {j : Nat} {c : Ctx} {g : Gh} {w : World} (hI : RInv c g w) (hF : g j = none) (o : Obj) : Step st j g w (more g j w.heap.size) (w.alloc o) :=
  ⟨by simp, fun k hk _ => heap_alloc_old w o hk, fun i k h => by
    unfold more
    rw [if_neg (fun e => by subst e; rw [hF] at h; cases h)]; exact h, fun i k h => by
    unfold more at h
    split at h
    · rename_i e; injection h with h; exact .inr ⟨e, by omega⟩
    · exact .inl h, fun _ _ _ _ h => h.next ((Below.refl _ _).alloc (Nat.le_refl _) o), hI.inj⟩
theorem RInv.alloc {c : Ctx} {g : Gh} {w : World} (hI : RInv c g w) (j : Nat) (hF : g j = none) (o : Obj) : RInv c (more g j w.heap.size) (w.alloc o) :=
  ⟨hI.below.alloc hI.below.size o, by have := hI.size; simp; omega, fun b hb ho => (heap_alloc_old w o (Nat.lt_of_lt_of_le hb hI.size)).trans (hI.old b hb (fun i e => ho i (by
      unfold more
      rw [if_neg (fun e' => by subst e'; rw [hF] at e; cases e)]; exact e))), fun i k h => by
    unfold more
    have := hI.keep0 i k h
    rw [if_neg (fun e' => by subst e'; rw [hF] at this; cases this)]; exact this, fun i k h => by
    unfold more at h
    split at h
    · injection h with h; subst h; exact .inr hI.size
    · exact hI.new i k h, fun i k h => by
    unfold more at h
    split at h
    · injection h with h; subst h; simp
    · have := hI.lt i k h; simp; omega, fun i k hi h => by
    unfold more at h
    split at h
    · injection h with h; subst h; exact hI.below.size
    · exact hI.base i k hi h, fun i i' k h h' => by
    unfold more at h h'
    split at h <;> split at h'
    · rename_i e e'; rw [e, e']
    · injection h with h; have := hI.lt i' k h'; omega
    · injection h' with h'; have := hI.lt i k h; omega
    · exact hI.inj i i' k h h', fun i k n h hx => (hI.box0 i k n h hx).next ((Below.refl _ _).alloc (Nat.le_refl _) o)⟩
/-- Only block k has changed, and what was a box is one. -/
structure Touch (w : World) (k : Nat) (w' : World) : Prop where
  os : w'.os = w.os
  tape : w'.tape = w.tape
  output : w'.output = w.output
  size : w'.heap.size = w.heap.size
  block : ∀ b, b ≠ k → w'.heap[b]? = w.heap[b]?
  box : ∀ b n, HasBox w b n → HasBox w' b n
theorem Touch.refl (w : World) (k : Nat) : Touch w k w := ⟨rfl, rfl, rfl, rfl, fun _ _ => rfl, fun _ _ h => h⟩
theorem Touch.set {w w' : World} {k : Nat} (h : Touch w k w') (o : Nat) (v : Value) : Touch w k (w'.setCell ⟨k, o, none⟩ v) := by
  have hb := (Below.refl 0 w').setCell (p := ⟨k, o, none⟩) (Nat.zero_le _) v
  exact ⟨hb.os.trans h.os, hb.tape.trans h.tape, hb.output.trans h.output, by
    have := World.size_setCell w' ⟨k, o, none⟩ v
    rw [this]; exact h.size, fun b hne => (Below.heap_setCell w' ⟨k, o, none⟩ v b hne).trans (h.block b hne), fun b n hx => (h.box b n hx).set_ _ _⟩
theorem Step.store {st : Nat → Option Nat} {s i k : Nat} {c : Ctx} {g : Gh} {w w' : World} (hI : RInv c g w) (hst : st i = some s) (hk : g i = some k) (ht : Touch w k w') : Step st s g w g w' :=
  ⟨by rw [ht.size]; exact Nat.le_refl _, fun b hb h => ht.block b (fun e => h i hst (by rw [e]; exact hk)), fun _ _ h => h, fun _ _ h => .inl h, fun _ b n _ h => ht.box b n h, hI.inj⟩
theorem RInv.store {i k : Nat} {c : Ctx} {g : Gh} {w w' : World} (hI : RInv c g w) (hi : i < 2000) (hk : g i = some k) (ht : Touch w k w') : RInv c g w' :=
  ⟨⟨ht.os.trans hI.below.os, ht.tape.trans hI.below.tape, ht.output.trans hI.below.output, by rw [ht.size]; exact hI.below.size, fun b hb => (ht.block b (fun e => by have := hI.base i k hi hk; omega)).trans (hI.below.block b hb)⟩,
    by rw [ht.size]; exact hI.size, fun b hb ho => (ht.block b (fun e => ho i (by rw [e]; exact hk))).trans (hI.old b hb ho), hI.keep0, hI.new, fun i k h => by (rw [ht.size]; exact hI.lt i k h), hI.base, hI.inj, fun i b n h hx => ht.box b n (hI.box0 i b n h hx)⟩
/-- Memory off the boxes is as it was. -/
def Keeps (g : Gh) (w : World) (g' : Gh) (w' : World) : Prop := ∀ b, b < w.heap.size → Off g b → Off g' b ∧ w'.heap[b]? = w.heap[b]?
theorem Step.keeps {st : Nat → Option Nat} {j : Nat} {g : Gh} {w : World} {g' : Gh} {w' : World} (hs : Step st j g w g' w') : Keeps g w g' w' := fun _ hb h => ⟨hs.off hb h, hs.block hb h⟩
/-- From the region's beginning to here. -/
theorem RInv.keeps {c : Ctx} {g : Gh} {w : World} (hI : RInv c g w) : Keeps c.g0 c.W g w := fun b hb h => by
  have ho : Off g b := fun i e => by
    rcases hI.new i b e with h1 | h1
    · exact h i h1
    · omega
  exact ⟨ho, hI.old b hb ho⟩
/-- To the next region's beginning. -/
theorem RInv.back {c : Ctx} {g : Gh} {w : World} (hI : RInv c g w) : Keeps g w c.g0 w := fun _ _ h => ⟨fun i e => h i (hI.keep0 i _ e), rfl⟩
theorem Keeps.trans {g g' g'' : Gh} {w w' w'' : World} (h : Keeps g w g' w') (hs : w.heap.size ≤ w'.heap.size) (k : Keeps g' w' g'' w'') : Keeps g w g'' w'' := fun b hb ho => by
  obtain ⟨h1, h2⟩ := h b hb ho
  obtain ⟨k1, k2⟩ := k b (by omega) h1
  exact ⟨k1, k2.trans h2⟩
theorem RInv.carry {c : Ctx} {g : Gh} {w : World} (hI : RInv c g w) : Keeps c.g0 c.W c.g0 w := hI.keeps.trans hI.size hI.back
/-- A function's own boxes and its caller's. -/
def lift (g : Gh) (k : Nat) : Gh := fun i => if i = 1000 then some k else if i < 2000 then none else g (i - 2000)
theorem lift_at (g : Gh) (k : Nat) : lift g k 1000 = some k := if_pos rfl
theorem lift_off {g : Gh} {k b : Nat} (h : Off g b) (hne : b ≠ k) : Off (lift g k) b := fun i e => by
  unfold lift at e
  split at e
  · injection e with e; exact hne e.symm
  · split at e
    · cases e
    · exact h _ e
theorem off_lift {g : Gh} {k b : Nat} (h : Off (lift g k) b) : Off g b := fun i e => h (i + 2000) (by
  unfold lift
  rw [if_neg (by omega), if_neg (by omega), Nat.add_sub_cancel]; exact e)
theorem Touch.keeps {w w' : World} {k i : Nat} {g : Gh} (ht : Touch w k w') (hk : g i = some k) : Keeps g w g w' := fun b _ h => ⟨h, ht.block b (fun e => h i (by rw [e]; exact hk))⟩
theorem SlR.keeps {g : Gh} {w : World} {g' : Gh} {w' : World} {k : IntKind} {A : Option Addr} {ds : List Int} (h : SlR w (Off g) k A ds) (hs : Keeps g w g' w') : SlR w' (Off g') k A ds := fun hl => by
  obtain ⟨b, off, e, hS, hc⟩ := h hl
  have hlt := lt_of_cell (hc 0 _ (List.getElem?_eq_getElem hl))
  exact ⟨b, off, e, (hs b hlt hS).1, fun i d hd => (World.cell?_of_block (hs b hlt hS).2).trans (hc i d hd)⟩
/-- What a call gives: a value with a fact. -/
def Gives (R : Value → Gh → World → Prop) (g : Gh) (w : World) (e : Ending) (w' : World) : Prop := ∃ v, e = .returned v ∧ R v g w' ∧ Below w.heap.size w w'
/-- A fact that only leans on memory off the boxes. -/
def Firm (R : Value → Gh → World → Prop) : Prop := ∀ v g w g' w', R v g w → Keeps g w g' w' → R v g' w'
/-- The cells of a value. -/
def cellsOf : Value → List Value
  | .agg xs => xs.toList
  | v => [v]
/-- A box that holds a value with a fact. -/
def BoxR (i : Nat) (R : Value → Gh → World → Prop) (g : Gh) (w : World) : Prop := ∃ k u, g i = some k ∧ k < w.heap.size ∧ CellsAt w k (cellsOf u) ∧ R u g w
theorem BoxR.step {st : Nat → Option Nat} {j s i : Nat} {R : Value → Gh → World → Prop} {g : Gh} {w : World} {g' : Gh} {w' : World} (hR : Firm R) (h : BoxR i R g w) (hs : Step st j g w g' w') (hst : st i = some s) (hj : s ≠ j) : BoxR i R g' w' := by
  obtain ⟨k, u, hk, hlt, h1, h2⟩ := h
  exact ⟨k, u, hs.keep i k hk, Nat.lt_of_lt_of_le hlt hs.size, h1.step hs hk hlt hst hj, hR _ _ _ _ _ h2 hs.keeps⟩
theorem firm_eq (x : Value) : Firm (fun v _ _ => v = x) := fun _ _ _ _ _ h _ => h
theorem cells2 {w : World} {q : Nat} {u0 u1 : Value} (h0 : w.cell? ⟨q, 0, none⟩ = some u0) (h1 : w.cell? ⟨q, 1, none⟩ = some u1) (v0 v1 : Value) : CellsAt ((w.setCell ⟨q, 0, none⟩ v0).setCell ⟨q, 1, none⟩ v1) q [v0, v1] := by
  have o : ∀ (w : World) (i j : Nat) (v : Value), i ≠ j → (w.setCell ⟨q, i, none⟩ v).cell? ⟨q, j, none⟩ = w.cell? ⟨q, j, none⟩ := fun w i j v hne => World.cell?_setCell_other _ _ _ _ (fun e => hne (by injection e))
  intro i v h
  match i, h with
  | 0, h => simp at h; subst h; exact (o _ 1 0 _ (by decide)).trans (World.cell?_setCell_same _ _ _ h0)
  | 1, h => simp at h; subst h; exact World.cell?_setCell_same _ _ _ ((o _ 0 1 _ (by decide)).trans h1)
theorem box2' (w : World) (a b : Value) (t : TypeId) : HasBox (w.alloc (.cells #[a, b] t)) w.heap.size 2 := by
  intro i hi
  match i, hi with
  | 0, _ => exact ⟨⟨a, by simp [go_sem]⟩, by simp [go_sem]⟩
  | 1, _ => exact ⟨⟨b, by simp [go_sem]⟩, by simp [go_sem]⟩
def Stab (st : Nat → Option Nat) (R : Value → Gh → World → Prop) (i : Nat) : Prop := ∀ j v g w g' w', i ≠ j → R v g w → Step st j g w g' w' → R v g' w'
def StabL (st : Nat → Option Nat) : List (Value → Gh → World → Prop) → Nat → Prop
  | [], _ => True
  | R :: r, i => Stab st R i ∧ StabL st r (i + 1)
theorem stab_firm {st : Nat → Option Nat} {R : Value → Gh → World → Prop} {i : Nat} (hR : Firm R) : Stab st R i := fun _ _ _ _ _ _ _ h hs => hR _ _ _ _ _ h hs.keeps
theorem stab_eq {st : Nat → Option Nat} {x : Value} {i : Nat} : Stab st (fun v _ _ => v = x) i := fun _ _ _ _ _ _ _ h _ => h
theorem stab_ptr {st : Nat → Option Nat} {i n k : Nat} : Stab st (PtrR i n) k := fun _ _ _ _ _ _ _ h hs => h.step hs
theorem stab_box {st : Nat → Option Nat} {R : Value → Gh → World → Prop} {i s : Nat} (hR : Firm R) (hst : st i = some s) : Stab st (fun _ g w => BoxR i R g w) s := fun _ _ _ _ _ _ hj h hs => BoxR.step hR h hs hst hj
theorem stabL_at {st : Nat → Option Nat} : ∀ {l : List (Value → Gh → World → Prop)} {k : Nat}, StabL st l k → ∀ i, Stab st (l.getD i (fun _ _ _ => True)) (k + i)
  | [], _, _, _ => fun _ _ _ _ _ _ _ _ _ => trivial
  | _ :: _, _, h, 0 => h.1
  | _ :: _, k, h, i + 1 => by
    have := stabL_at h.2 i
    rw [show k + 1 + i = k + (i + 1) by omega] at this
    exact this
theorem Ctx.ok_lift {c : Ctx} {g : Gh} {w W : World} {k : Nat} (hI : RInv c g w) (hb : Below w.heap.size w W) (hk : w.heap.size ≤ k) (hW : k < W.heap.size) : Ctx.Ok ⟨w, W, lift g k⟩ := by
  refine ⟨hb, fun i b h => ?_, fun i b hi h => ?_, fun i j b h h' => ?_, fun i hi => ?_⟩
  all_goals simp only [lift] at *
  · split at h
    · injection h with h; omega
    · split at h
      · cases h
      · have := hI.lt _ _ h; have := hb.size; omega
  · split at h
    · injection h with h; omega
    · first | (cases h; done) | (rw [if_pos hi] at h; cases h)
  · split at h
    · injection h with h
      split at h'
      · omega
      · split at h'
        · cases h'
        · have := hI.lt _ _ h'; omega
    · split at h
      · cases h
      · split at h'
        · injection h' with h'; have := hI.lt _ _ h; omega
        · split at h'
          · cases h'
          · have := hI.inj _ _ _ h h'; omega
  · rw [if_neg (by omega), if_pos (by omega)]
/-- A function that has no box of its own for its results. -/
def lift0 (g : Gh) : Gh := fun i => if i < 2000 then none else g (i - 2000)
theorem lift0_off {g : Gh} {b : Nat} (h : Off g b) : Off (lift0 g) b := fun i e => by
  unfold lift0 at e
  split at e
  · cases e
  · exact h _ e
theorem off_lift0 {g : Gh} {b : Nat} (h : Off (lift0 g) b) : Off g b := fun i e => h (i + 2000) (by
  unfold lift0
  rw [if_neg (by omega), Nat.add_sub_cancel]; exact e)
theorem Ctx.ok_lift0 {c : Ctx} {g : Gh} {w W : World} (hI : RInv c g w) (hb : Below w.heap.size w W) : Ctx.Ok ⟨w, W, lift0 g⟩ := by
  refine ⟨hb, fun i b h => ?_, fun i b hi h => ?_, fun i j b h h' => ?_, fun i hi => ?_⟩
  all_goals simp only [lift0] at *
  · split at h
    · cases h
    · have := hI.lt _ _ h; have := hb.size; omega
  · rw [if_pos hi] at h; cases h
  · split at h
    · cases h
    · split at h'
      · cases h'
      · have := hI.inj _ _ _ h h'; omega
  · rw [if_pos (by omega)]
theorem keeps_lift0 {g : Gh} {w W : World} (hb : Below w.heap.size w W) : Keeps g w (lift0 g) W := fun b h ho => ⟨lift0_off ho, hb.block b h⟩
theorem keeps_out0 {g : Gh} {w : World} : Keeps (lift0 g) w g w := fun _ _ ho => ⟨off_lift0 ho, rfl⟩
/-- Out of the function. -/
theorem keeps_out {g : Gh} {w : World} {k : Nat} : Keeps (lift g k) w g w := fun _ _ ho => ⟨off_lift ho, rfl⟩
section
variable {P : Program} {ops : Array Oper} {Q : Exit → Act → World → Prop}
/-- A region in whatever order, by the list of its facts. -/
theorem box_plan {id : Nat} {a0 : Act} {c : Ctx} (hc : c.Ok) (hm : P.follows .mixedOrders = true) (pre : List (List (Nat × Nat))) (all : List (Nat × Nat)) (Rs : List (Value → Gh → World → Prop)) (st : Nat → Option Nat) (chk : rgChk ops pre = true) (chk2 : allChk ops all = true)
    (hst : StabL st Rs 0) (steps : StepsL P ops Q a0 pre (RInv c) (fun i => Rs.getD i (fun _ _ _ => True)) (Step st) (fun i g => i < 1000 → g i = none) ops.toList 0)
    (fin : ∀ vs g w, RInv c g w → (∀ i, i < ops.size → Rs.getD i (fun _ _ _ => True) (vs i) g w) → Q .normal (fill a0 vs all) w) : (Code.region id ops true).wp P Q a0 c.W :=
  region_plan (Γ := Gh) (g0 := c.g0) hm ⟨pre, all, RInv c, _, Step st, fun i g => i < 1000 → g i = none, chk, chk2, fun i j v g w g' w' hij _ h hs => by
    have := stabL_at hst i
    rw [Nat.zero_add] at this
    exact this j v g w g' w' hij h hs, fun _ _ _ _ _ _ hij h hs hi => Step.none_ hij (h hi) hs, RInv.start hc, hc.free, steps, fin⟩
/-- A region in the text's order, by the list of its facts. -/
theorem box_plan0 {id : Nat} {a0 : Act} {c : Ctx} (hc : c.Ok) (pre : List (List (Nat × Nat))) (all : List (Nat × Nat)) (Rs : List (Value → Gh → World → Prop)) (st : Nat → Option Nat) (chk : rgChk ops pre = true) (chk2 : allChk ops all = true)
    (hst : StabL st Rs 0) (steps : StepsL P ops Q a0 pre (RInv c) (fun i => Rs.getD i (fun _ _ _ => True)) (Step st) (fun i g => i < 1000 → g i = none) ops.toList 0)
    (fin : ∀ vs g w, RInv c g w → (∀ i, i < ops.size → Rs.getD i (fun _ _ _ => True) (vs i) g w) → Q .normal (fill a0 vs all) w) : (Code.region id ops false).wp P Q a0 c.W :=
  region_plan0 (Γ := Gh) (g0 := c.g0) ⟨pre, all, RInv c, _, Step st, fun i g => i < 1000 → g i = none, chk, chk2, fun i j v g w g' w' hij _ h hs => by
    have := stabL_at hst i
    rw [Nat.zero_add] at this
    exact this j v g w g' w' hij h hs, fun _ _ _ _ _ _ hij h hs hi => Step.none_ hij (h hi) hs, RInv.start0 hc, hc.free, steps, fin⟩
end
theorem RInv.offs {c : Ctx} {g : Gh} {w : World} (hI : RInv c g w) : ∀ b, w.heap.size ≤ b → Off g b := fun b hb i e => by have := hI.lt i b e; omega
end Go.Proofs.YthmkllpdkcmccaaGreatDoor
namespace Go.Proofs.YthmkllpdkcmccaaGreatDoor
open Go.RowKit
set_option maxRecDepth 100000
set_option linter.unusedVariables false
set_option linter.unusedSimpArgs false

/-- An event. -/
structure Ev where
  k : Int
  a : Int
  b : Int
  deriving DecidableEq
/-- The first difference of two lists, or -1. -/
def firstD : List Ev → List Ev → Int
  | [], [] => -1
  | [], _ :: _ => 0
  | _ :: _, [] => 0
  | e :: l, f :: m => if e = f then (if firstD l m < 0 then -1 else firstD l m + 1) else 0
theorem firstD_cases : ∀ l m, (firstD l m = -1 ∧ l = m) ∨ (0 ≤ firstD l m ∧ l ≠ m)
  | [], [] => .inl ⟨rfl, rfl⟩
  | [], _ :: _ => .inr ⟨Int.le_refl 0, by simp⟩
  | _ :: _, [] => .inr ⟨Int.le_refl 0, by simp⟩
  | e :: l, f :: m => by
    unfold firstD
    by_cases h : e = f
    · subst h
      rw [if_pos rfl]
      rcases firstD_cases l m with ⟨h1, rfl⟩ | ⟨h1, h2⟩
      · left; rw [h1]; exact ⟨rfl, rfl⟩
      · right; rw [if_neg (by omega)]; exact ⟨by omega, fun e => h2 (by injection e)⟩
    · rw [if_neg h]; right; exact ⟨by decide, fun e2 => h (by injection e2)⟩
theorem firstD_neg (l m : List Ev) : decide (firstD l m < 0) = decide (l = m) := by
  rw [decide_eq_decide]
  rcases firstD_cases l m with ⟨h, e⟩ | ⟨h, e⟩
  · rw [h]; exact ⟨fun _ => e, fun _ => by decide⟩
  · exact ⟨fun h2 => by omega, fun h2 => absurd h2 e⟩
theorem firstD_append : ∀ p l m, firstD (p ++ l) (p ++ m) = if firstD l m < 0 then -1 else p.length + firstD l m
  | [], l, m => by
    rcases firstD_cases l m with ⟨h, e⟩ | ⟨h, e⟩
    · simp [h]
    · simp [Int.not_lt.2 h]
  | e :: p, l, m => by
    show firstD (e :: (p ++ l)) (e :: (p ++ m)) = _
    rw [show firstD (e :: (p ++ l)) (e :: (p ++ m)) = if e = e then (if firstD (p ++ l) (p ++ m) < 0 then -1 else firstD (p ++ l) (p ++ m) + 1) else 0 from rfl, if_pos rfl, firstD_append p l m]
    rcases firstD_cases l m with ⟨h, e⟩ | ⟨h, e⟩
    · simp [h]
    · rw [if_neg (by omega : ¬ firstD l m < 0), if_neg (by omega)]; simp; omega
/-- What a comparison that has come to index k knows. -/
theorem firstD_at {l m : List Ev} {k : Nat} (h : l.take k = m.take k) (h1 : k < l.length) (h2 : k < m.length) (hne : l[k] ≠ m[k]) : firstD l m = k := by
  have e1 : l = l.take k ++ (l[k] :: l.drop (k + 1)) := by rw [← List.drop_eq_getElem_cons h1, List.take_append_drop]
  have e2 : m = l.take k ++ (m[k] :: m.drop (k + 1)) := by rw [h, ← List.drop_eq_getElem_cons h2, List.take_append_drop]
  have e3 : firstD (l[k] :: l.drop (k + 1)) (m[k] :: m.drop (k + 1)) = 0 := by unfold firstD; rw [if_neg hne]
  have hl : (l.take k).length = k := by rw [List.length_take]; omega
  have h5 : ∀ L M, L = l.take k ++ (l[k] :: l.drop (k + 1)) → M = l.take k ++ (m[k] :: m.drop (k + 1)) → firstD L M = k := by
    intro L M hL hM
    rw [hL, hM, firstD_append, e3, hl]; simp
  exact h5 l m e1 e2
theorem firstD_end {l m : List Ev} {k : Nat} (h : l.take k = m.take k) (hk : k = l.length ∨ k = m.length) (h1 : k ≤ l.length) (h2 : k ≤ m.length) : firstD l m = if l.length = m.length then -1 else min (l.length : Int) m.length := by
  have e1 : l = l.take k ++ l.drop k := (List.take_append_drop k l).symm
  have e2 : m = l.take k ++ m.drop k := by rw [h, List.take_append_drop]
  have hl : (l.take k).length = k := by rw [List.length_take]; omega
  have h5 : ∀ L M, L = l.take k ++ l.drop k → M = l.take k ++ m.drop k → firstD L M = if l.length = m.length then -1 else min (l.length : Int) m.length := by
    intro L M hL hM
    rw [hL, hM, firstD_append, hl]
    by_cases e : l.length = m.length
    · rw [if_pos e, List.drop_eq_nil_of_le (by omega), List.drop_eq_nil_of_le (by omega)]; rfl
    · rw [if_neg e]
      rcases hk with hk | hk
      · rw [show l.drop k = [] from List.drop_eq_nil_of_le (by omega)]
        rcases hm : m.drop k with _ | ⟨f, r⟩
        · have := congrArg List.length hm; simp at this; omega
        · show (if (0 : Int) < 0 then _ else _) = _
          rw [if_neg (by decide)]; show (k : Int) + 0 = _; omega
      · rw [show m.drop k = [] from List.drop_eq_nil_of_le (by omega)]
        rcases hm : l.drop k with _ | ⟨f, r⟩
        · have := congrArg List.length hm; simp at this; omega
        · show (if (0 : Int) < 0 then _ else _) = _
          rw [if_neg (by decide)]; show (k : Int) + 0 = _; omega
  exact h5 l m e1 e2
/-- How many events have a kind. -/
def cntK (l : List Ev) (x : Int) : Nat := l.countP fun e => e.k == x
theorem cntK_le (l : List Ev) (x : Int) : cntK l x ≤ l.length := List.countP_le_length

/-- The cells behind an address are the events l, and lie in a block that T admits. -/
def EvsR (w : World) (T : Nat → Prop) (A : Option Addr) (l : List Ev) : Prop :=
  0 < l.length → ∃ b o, A = some ⟨b, o, none⟩ ∧ T b ∧ ∀ j (e : Ev), l[j]? = some e → w.cell? ⟨b, o + j * 3, none⟩ = some (.int .i64 e.k) ∧ w.cell? ⟨b, o + j * 3 + 1, none⟩ = some (.int .i64 e.a) ∧ w.cell? ⟨b, o + j * 3 + 2, none⟩ = some (.int .i64 e.b)
theorem EvsR.nil_ (w : World) (T : Nat → Prop) (A : Option Addr) : EvsR w T A [] := fun h => absurd h (by simp)
theorem EvsR.at_ {w : World} {T : Nat → Prop} {A : Option Addr} {l : List Ev} (h : EvsR w T A l) {j : Nat} (hj : j < l.length) :
    ∃ b o, A = some ⟨b, o, none⟩ ∧ T b ∧ w.cell? ⟨b, o + j * 3, none⟩ = some (.int .i64 (l[j]'hj).k) ∧ w.cell? ⟨b, o + j * 3 + 1, none⟩ = some (.int .i64 (l[j]'hj).a) ∧ w.cell? ⟨b, o + j * 3 + 2, none⟩ = some (.int .i64 (l[j]'hj).b) := by
  obtain ⟨b, o, e, hT, hc⟩ := h (by omega)
  exact ⟨b, o, e, hT, hc j _ (List.getElem?_eq_getElem hj)⟩
theorem EvsR.keep {w w' : World} {T : Nat → Prop} {A : Option Addr} {l : List Ev} (h : EvsR w T A l) (hk : ∀ b, T b → b < w.heap.size → w'.heap[b]? = w.heap[b]?) : EvsR w' T A l := fun hl => by
  obtain ⟨b, o, e, hT, hc⟩ := h hl
  refine ⟨b, o, e, hT, fun j x hx => ?_⟩
  obtain ⟨h1, h2, h3⟩ := hc j x hx
  have hb := hk b hT (World.block_lt_of_cell? w ⟨b, _, none⟩ h1)
  exact ⟨(World.cell?_of_block (a := ⟨b, _, none⟩) hb).trans h1, (World.cell?_of_block (a := ⟨b, _, none⟩) hb).trans h2, (World.cell?_of_block (a := ⟨b, _, none⟩) hb).trans h3⟩
theorem EvsR.imp {w : World} {T U : Nat → Prop} {A : Option Addr} {l : List Ev} (h : EvsR w T A l) (hTU : ∀ b, T b → U b) : EvsR w U A l := fun hl => by
  obtain ⟨b, o, e, hT, hc⟩ := h hl
  exact ⟨b, o, e, hTU b hT, hc⟩
theorem EvsR.next {w w' : World} {T : Nat → Prop} {A : Option Addr} {l : List Ev} (h : EvsR w T A l) (hb : Below w.heap.size w w') : EvsR w' T A l := h.keep fun b _ hlt => hb.block b hlt
theorem ev_ext {e f : Ev} (h1 : e.k = f.k) (h2 : e.a = f.a) (h3 : e.b = f.b) : e = f := by cases e; cases f; simp_all
theorem take_snoc_eq {l m : List Ev} {k : Nat} (h : l.take k = m.take k) (h1 : k < l.length) (h2 : k < m.length) (he : l[k] = m[k]) : l.take (k + 1) = m.take (k + 1) := by rw [List.take_succ_eq_append_getElem h1, List.take_succ_eq_append_getElem h2, h, he]
set_option maxHeartbeats 4000000 in
theorem ref10First_any (A B : Option Addr) (c d : Nat) (l m : List Ev) (T U : Nat → Prop) (w : World) (ha : EvsR w T A l) (hb : EvsR w U B m) (hl : l.length ≤ 1000000) (hm : m.length ≤ 1000000) :
    Calls Tryz.prog 28 #[.slice A l.length c, .slice B m.length d] w fun e w' => e = .returned (.int .i64 (firstD l m)) ∧ ∃ n, w' = w.drewN n := by
  go_enter Tryz.func28, Tryz.ntmps28
  go_wp2
  go_loopw [5] (fun i wr => ∃ k n : Nat, i = .int .i64 k ∧ k ≤ l.length ∧ k ≤ m.length ∧ l.take k = m.take k ∧ wr = w.drewN n) (fun i _ => l.length - (intOf i).toNat)
  case atStart => exact ⟨0, 0, rfl, Nat.zero_le _, Nat.zero_le _, by simp, rfl⟩
  case round =>
    obtain ⟨k, n, rfl, hk1, hk2, heq, rfl⟩ := hrel
    have HQ := Lib.hid heq
    clear heq
    by_cases hgo : k < l.length
    · by_cases hgo2 : k < m.length
      · obtain ⟨b, o, rfl, _, h1, h2, h3⟩ := ha.at_ hgo
        obtain ⟨b2, o2, rfl, _, g1, g2, g3⟩ := hb.at_ hgo2
        clear ha hb
        obtain ⟨e, he⟩ : ∃ e, e = l[k]'hgo := ⟨_, rfl⟩
        obtain ⟨f, hf⟩ : ∃ f, f = m[k]'hgo2 := ⟨_, rfl⟩
        rw [← he] at h1 h2 h3
        rw [← hf] at g1 g2 g3
        have HE := Lib.hid he
        have HF := Lib.hid hf
        clear he hf
        by_cases c1 : e.k = f.k
        · have d1 : (e.k != f.k) = false := by rw [bne_eq_false_iff_eq]; exact c1
          have H1 := Lib.hid c1
          clear c1
          by_cases c2 : e.a = f.a
          · have d2 : (e.a != f.a) = false := by rw [bne_eq_false_iff_eq]; exact c2
            have H2 := Lib.hid c2
            clear c2
            by_cases c3 : e.b = f.b
            · have d3 : (e.b != f.b) = false := by rw [bne_eq_false_iff_eq]; exact c3
              have H3 := Lib.hid c3
              clear c3
              go_wp2
              go_quiet (fail)
              go_wp2
              go_roundw
              case rel => exact ⟨k + 1, n + nq, by go_num, hgo, hgo2, take_snoc_eq HQ.out hgo hgo2 (by rw [← HE.out, ← HF.out]; exact ev_ext H1.out H2.out H3.out), rfl⟩
              case measure => simp [intOf]; omega
            · have d3 : (e.b != f.b) = true := by rw [bne_iff_ne]; exact c3
              have HN := Lib.hid (show e ≠ f from fun h => c3 (by rw [h]))
              clear c3
              go_wp2
              go_quiet (fail)
              go_wp2
              go_ret
              exact ⟨by rw [firstD_at HQ.out hgo hgo2 (by rw [← HE.out, ← HF.out]; exact HN.out)]; rfl, n + nq, by simp [go_sem]⟩
          · have d2 : (e.a != f.a) = true := by rw [bne_iff_ne]; exact c2
            have HN := Lib.hid (show e ≠ f from fun h => c2 (by rw [h]))
            clear c2
            go_wp2
            go_quiet (fail)
            go_wp2
            go_ret
            exact ⟨by rw [firstD_at HQ.out hgo hgo2 (by rw [← HE.out, ← HF.out]; exact HN.out)]; rfl, n + nq, by simp [go_sem]⟩
        · have d1 : (e.k != f.k) = true := by rw [bne_iff_ne]; exact c1
          have HN := Lib.hid (show e ≠ f from fun h => c1 (by rw [h]))
          clear c1
          go_wp2
          go_quiet (fail)
          go_wp2
          go_ret
          exact ⟨by rw [firstD_at HQ.out hgo hgo2 (by rw [← HE.out, ← HF.out]; exact HN.out)]; rfl, n + nq, by simp [go_sem]⟩
      · have HK := Lib.hid (show k = m.length by omega)
        have HV := Lib.hid (firstD_end HQ.out (.inr HK.out) hk1 hk2)
        clear ha hb
        by_cases heq : l.length = m.length
        · have hd : ((l.length : Int) == (m.length : Int)) = true := by rw [beq_iff_eq]; omega
          have HL := Lib.hid heq
          clear heq
          go_wp2
          go_ret
          exact ⟨by rw [HV.out, if_pos HL.out]; rfl, n, rfl⟩
        · have hd : ((l.length : Int) == (m.length : Int)) = false := by rw [beq_eq_false_iff_ne]; omega
          have HL := Lib.hid heq
          clear heq
          go_wp2
          go_ret
          exact ⟨by rw [HV.out, if_neg HL.out]; rfl, n, rfl⟩
    · have HK := Lib.hid (show k = l.length by omega)
      have HV := Lib.hid (firstD_end HQ.out (.inl HK.out) hk1 hk2)
      clear ha hb
      by_cases heq : l.length = m.length
      · have hd : ((l.length : Int) == (m.length : Int)) = true := by rw [beq_iff_eq]; omega
        have HL := Lib.hid heq
        clear heq
        go_wp2
        go_ret
        exact ⟨by rw [HV.out, if_pos HL.out]; rfl, n, rfl⟩
      · have hd : ((l.length : Int) == (m.length : Int)) = false := by rw [beq_eq_false_iff_ne]; omega
        have HL := Lib.hid heq
        clear heq
        go_wp2
        go_ret
        exact ⟨by rw [HV.out, if_neg HL.out]; rfl, n, rfl⟩
theorem ref10Same_any (A B : Option Addr) (c d : Nat) (l m : List Ev) (T U : Nat → Prop) (w : World) (ha : EvsR w T A l) (hb : EvsR w U B m) (hl : l.length ≤ 1000000) (hm : m.length ≤ 1000000) :
    Calls Tryz.prog 11 #[.slice A l.length c, .slice B m.length d] w fun e w' => e = .returned (.bool (decide (l = m))) ∧ ∃ n, w' = w.drewN n := by
  have HD := Lib.hid (firstD_neg l m)
  go_enter Tryz.func11, Tryz.ntmps11
  go_wp2_with (fail)
  refine (ref10First_any A B c d l m T U w ha hb hl hm).mono ?_
  rintro e w' ⟨rfl, n, rfl⟩
  go_wp2
  go_ret
  exact ⟨by rw [← HD.out]; rfl, n, rfl⟩
end Go.Proofs.YthmkllpdkcmccaaGreatDoor
namespace Go.Proofs.YthmkllpdkcmccaaGreatDoor
open Go.RowKit
set_option maxRecDepth 100000
set_option linter.unusedVariables false
set_option linter.unusedSimpArgs false

/-- An iterator that yields N times: J is the caller's condition between two rounds, Pre what the iterator reads there, Step what it does ahead of a round, Fin what it does behind the last one. -/
def Yields (F : Fence) (n : Nat) (P : Program) (g : Nat) (lb : Array Value) (encs : Nat → Array Value) (N : Nat) (Pre : Nat → World → Prop) (Step : Nat → World → World → Prop) (Fin : World → World → Prop) : Prop :=
  ∀ (l : Nat) (J : Nat → World → Prop) (Jx : World → Prop) (W : World), (∀ k W1, J k W1 → Pre k W1) →
    (∀ k W1 W2, k < N → J k W1 → Step k W1 W2 → YieldAt F (n - 1) P l (encs k) W2 fun e W3 => (e = .returned (.bool true) ∧ J (k + 1) W3) ∨ (e = .returned (.bool false) ∧ Jx W3)) →
    J 0 W → CallsIn F n P g (#[.func (.yield l) #[] #[]] ++ lb) W fun e W' => (∃ v, e = .returned v) ∧ ((∃ W1, J N W1 ∧ Fin W1 W') ∨ (∃ W1, Jx W1 ∧ Fin W1 W'))
/-- The loop's two records lie as they lay. -/
def Same2 (B : Nat) (W W' : World) : Prop := W'.heap[B]? = W.heap[B]? ∧ W'.heap[B + 1]? = W.heap[B + 1]?
theorem Same2.refl (B : Nat) (W : World) : Same2 B W W := ⟨rfl, rfl⟩
theorem Same2.trans {B : Nat} {W1 W2 W3 : World} (h : Same2 B W1 W2) (k : Same2 B W2 W3) : Same2 B W1 W3 := ⟨k.1.trans h.1, k.2.trans h.2⟩
/-- How a round's body may be left. -/
def roundPost (B : Nat) (I : World → Prop) (Ix : Code → World → Prop) (W : World) : Exit → Act → World → Prop
  | .normal, _, W' => Same2 B W W' ∧ I W'
  | .ret, _, W' => Same2 B W W' ∧ Ix .ret W'
  | .exit id, _, W' => Same2 B W W' ∧ Ix (.exit id) W'
  | .goto t, _, W' => Same2 B W W' ∧ Ix (.goto t) W'
  | .panic _, _, _ => False
  | .outgrown, _, _ => False
variable {F : Fence} {n : Nat} {P : Program}
set_option maxHeartbeats 1000000 in
/-- The law of the loop. -/
theorem wpIn_rangeFunc_y {g : Operand} {ps : Array Tmp} {assign body : Code} {Q : Exit → Act → World → Prop} {a : Act} {w : World}
    (hro : F.round = none) (h1 : 1 ≤ n) {gf : Nat} {lb : Array Value} (hg : a.eval g = .func (.func gf) #[] lb) (hFg : F.fn gf) (eg : ∀ args w, (callFunc gf args).run P w = .ok (.enter gf args) w)
    {encs : Nat → Array Value} {N : Nat} {Pre : Nat → World → Prop} {Step : Nat → World → World → Prop} {Fin : World → World → Prop} (hseq : Yields F (n - 1) P gf lb encs N Pre Step Fin)
    (hps : ∀ k, (encs k).size = ps.size) (I Im : Nat → World → Prop) (Ix : Code → World → Prop)
    (hI : ∀ k W o, I k W → I k (W.putObj (w.heap.size + 1) o)) (hIm : ∀ k W o, Im k W → Im k (W.putObj (w.heap.size + 1) o)) (hIx : ∀ c W o, Ix c W → Ix c (W.putObj (w.heap.size + 1) o))
    (h0 : ∀ o, I 0 ((w.alloc (.deferred (some []))).alloc o)) (hpre : ∀ k W, I k W → Pre k W)
    (hst : ∀ k W W', k < N → w.heap.size + 1 < W.heap.size → I k W → Step k W W' → Same2 w.heap.size W W' ∧ Im k W')
    (hfi : ∀ W W', w.heap.size + 1 < W.heap.size → I N W → Fin W W' → Same2 w.heap.size W W' ∧ I N W') (hfx : ∀ c W W', w.heap.size + 1 < W.heap.size → Ix c W → Fin W W' → Same2 w.heap.size W W' ∧ Ix c W') (a₁ : Nat → Act)
    (hassign : ∀ (l k : Nat) (W : World) (K : Act → World → Prop), K (a₁ k) W →
      assign.wpIn (F.inRound l) (n - 1 - 1) P (Exit.then K (fun _ _ _ => False)) { tmps := (ps.zip (encs k)).foldl (fun t (p, v) => t.setIfInBounds p v) a.tmps, defers := [] } W)
    (hbody : ∀ (l k : Nat) (W : World), k < N → w.heap.size + 1 < W.heap.size → Im k W → body.wpIn (F.inRound l) (n - 1 - 1) P (roundPost w.heap.size (I (k + 1)) Ix W) (a₁ k) W)
    (hdone : ∀ (W : World), I N W → W.heap[w.heap.size]? = some (.deferred (some [])) → Q .normal { a with defers := { target := .collected w.heap.size, args := #[] } :: a.defers } W)
    (hstop : ∀ (c : Code) (W : World), Ix c W → W.heap[w.heap.size]? = some (.deferred (some [])) → c.wpIn F n P Q { a with defers := { target := .collected w.heap.size, args := #[] } :: a.defers } W) :
    (Code.rangeFunc g ps assign body).wpIn F n P Q a w := by
  refine wpIn_rangeFunc ?_
  intro fn hfn
  rw [hro]
  obtain ⟨rec, hrec⟩ : ∃ rec : LoopState → Option Code → Loop, rec = fun st pe => { state := st, pending := pe, fn, tmps := a.tmps, params := ps, assign, body, defers := w.heap.size } := ⟨_, rfl⟩
  obtain ⟨W1, hW1⟩ : ∃ W1, (w.alloc (.deferred (some []))).alloc (.loop (rec .ready none)) = W1 := ⟨_, rfl⟩
  have hL1 : W1.heap[w.heap.size + 1]? = some (.loop (rec .ready none)) := by
    rw [← hW1]; have := World.alloc_heap_new (w.alloc (.deferred (some []))) (.loop (rec .ready none)); rwa [World.size_alloc] at this
  have hK1 : W1.heap[w.heap.size]? = some (.deferred (some [])) := by
    rw [← hW1]; exact (Below.heap_alloc _ _ _ (by simp)).trans (World.alloc_heap_new w _)
  have hI1 : I 0 W1 := by rw [← hW1]; exact h0 _
  refine ⟨w.heap.size + 1, [{ target := .collected w.heap.size, args := #[] }], W1, { target := .fn (.func gf) lb, args := #[.func (.yield (w.heap.size + 1)) #[] #[]] }, W1, gf,
    #[.func (.yield (w.heap.size + 1)) #[] #[]] ++ lb, W1, ?_, ?_, ?_, ?_, fun _ => h1, ?_⟩
  · rw [← hW1, hrec]; exact run_enterLoop_outer _ _ _ _ _
  · simp only [resolve, hg]
    simp [go_sem]
  · intro f' hf'; simp [Target.leads] at hf'; subst hf'; exact hFg
  · simp [invoke, go_sem, eg]
  · have lt_of : ∀ {W : World} {b : Nat} {o : Obj}, W.heap[b]? = some o → b < W.heap.size := fun h => (Array.getElem?_eq_some_iff.1 h).1
    refine (hseq (w.heap.size + 1)
      (fun k W => I k W ∧ W.heap[w.heap.size + 1]? = some (.loop (rec .ready none)) ∧ W.heap[w.heap.size]? = some (.deferred (some [])))
      (fun W => ∃ c, Ix c W ∧ W.heap[w.heap.size + 1]? = some (.loop (rec .done (some c))) ∧ W.heap[w.heap.size]? = some (.deferred (some [])))
      W1 (fun k W h => hpre k W h.1) ?_ ⟨hI1, hL1, hK1⟩).mono ?_
    · rintro k Wa W hkN ⟨hia, hla, hka⟩ hs
      obtain ⟨⟨hs1, hs2⟩, hi⟩ := hst k Wa W hkN (lt_of hla) hia hs
      have hl := hs2.trans hla
      have hk := hs1.trans hka
      have hlt : w.heap.size + 1 < W.heap.size := lt_of hl
      have hy := run_yield (P := P) (args := encs k) hl (by rw [hrec]; exact hps k)
      rw [hrec] at hy
      refine ⟨fn, _, assign, body, hy, roundIn_of_wpIn hfn (hassign _ k W _ ⟨_, run_beginRound hl (by rw [hrec]), ?_⟩)⟩
      have hl2 : (W.putObj (w.heap.size + 1) (.loop { rec .ready none with state := .busy })).heap[w.heap.size + 1]? = some (.loop { rec .ready none with state := .busy }) := World.putObj_heap_same hlt
      have hk2 : (W.putObj (w.heap.size + 1) (.loop { rec .ready none with state := .busy })).heap[w.heap.size]? = some (.deferred (some [])) := (World.putObj_heap_other (by omega)).trans hk
      refine wpIn_mono (hbody _ k _ hkN (lt_of hl2) (hIm _ _ _ hi)) ?_
      have fin : ∀ (jump : Option Code) (W3 : World), Same2 w.heap.size (W.putObj (w.heap.size + 1) (.loop { rec .ready none with state := .busy })) W3 →
          (Instr.endRound (w.heap.size + 1) jump).run P W3 = .ok (.bool jump.isNone) (W3.putObj (w.heap.size + 1) (.loop (rec (if jump.isNone then .ready else .done) jump))) ∧
          (W3.putObj (w.heap.size + 1) (.loop (rec (if jump.isNone then .ready else .done) jump))).heap[w.heap.size + 1]? = some (.loop (rec (if jump.isNone then .ready else .done) jump)) ∧
          (W3.putObj (w.heap.size + 1) (.loop (rec (if jump.isNone then .ready else .done) jump))).heap[w.heap.size]? = some (.deferred (some [])) := fun jump W3 hk3 => by
        have hl3 := hk3.2.trans hl2
        have := run_endRound (P := P) jump hl3
        rw [hrec] at this ⊢
        exact ⟨this, World.putObj_heap_same (lt_of hl3), (World.putObj_heap_other (by omega)).trans (hk3.1.trans hk2)⟩
      rintro e a3 W3 hp
      cases e with
      | normal =>
        obtain ⟨hk3, hi3⟩ := hp
        obtain ⟨hr, hl4, hk4⟩ := fin none W3 hk3
        exact ⟨_, _, hr, .inl ⟨rfl, hI _ _ _ hi3, hl4, hk4⟩⟩
      | ret =>
        obtain ⟨hk3, hi3⟩ := hp
        obtain ⟨hr, hl4, hk4⟩ := fin (some .ret) W3 hk3
        exact ⟨_, _, hr, .inr ⟨rfl, .ret, hIx _ _ _ hi3, hl4, hk4⟩⟩
      | exit id =>
        obtain ⟨hk3, hi3⟩ := hp
        obtain ⟨hr, hl4, hk4⟩ := fin (some (.exit id)) W3 hk3
        exact ⟨_, _, hr, .inr ⟨rfl, .exit id, hIx _ _ _ hi3, hl4, hk4⟩⟩
      | goto t =>
        obtain ⟨hk3, hi3⟩ := hp
        obtain ⟨hr, hl4, hk4⟩ := fin (some (.goto t)) W3 hk3
        exact ⟨_, _, hr, .inr ⟨rfl, .goto t, hIx _ _ _ hi3, hl4, hk4⟩⟩
      | panic ch => exact hp.elim
      | outgrown => exact hp.elim
    · rintro e W2 ⟨⟨v, rfl⟩, (⟨Wa, ⟨hia, hla, hka⟩, hf⟩ | ⟨Wa, ⟨c, hia, hla, hka⟩, hf⟩)⟩
      · obtain ⟨⟨hs1, hs2⟩, hi⟩ := hfi Wa W2 (lt_of hla) hia hf
        have hl := hs2.trans hla
        have hk := hs1.trans hka
        exact ⟨none, _, by have := run_endLoop (P := P) hl (by rw [hrec]; simp); rw [hrec] at this; exact this, hdone _ (hI _ _ _ hi) ((World.putObj_heap_other (by omega)).trans hk)⟩
      · obtain ⟨⟨hs1, hs2⟩, hi⟩ := hfx c Wa W2 (lt_of hla) hia hf
        have hl := hs2.trans hla
        have hk := hs1.trans hka
        exact ⟨some c, _, by have := run_endLoop (P := P) hl (by rw [hrec]; simp); rw [hrec] at this; exact this, hstop c _ (hIx _ _ _ hi) ((World.putObj_heap_other (by omega)).trans hk)⟩
end Go.Proofs.YthmkllpdkcmccaaGreatDoor
namespace Go.Proofs.YthmkllpdkcmccaaGreatDoor
open Go.RowKit
set_option maxRecDepth 100000
set_option linter.unusedVariables false
set_option linter.unusedSimpArgs false

/-- Only blocks that T admits have changed. -/
structure Moved (T : Nat → Prop) (w w' : World) : Prop where
  os : w'.os = w.os
  tape : w'.tape = w.tape
  output : w'.output = w.output
  size : w.heap.size ≤ w'.heap.size
  block : ∀ g, g < w.heap.size → ¬ T g → w'.heap[g]? = w.heap[g]?
theorem Moved.below {B : Nat} {T : Nat → Prop} {a w w' : World} (h : Moved T w w') (hb : Below B a w) (hT : ∀ g, T g → B ≤ g) (hB : B ≤ w.heap.size) : Below B a w' :=
  ⟨h.os.trans hb.os, h.tape.trans hb.tape, h.output.trans hb.output, Nat.le_trans hb.size h.size, fun k hk => (h.block k (by omega) (fun e => by have := hT k e; omega)).trans (hb.block k hk)⟩
theorem Moved.refl (T : Nat → Prop) (w : World) : Moved T w w := ⟨rfl, rfl, rfl, Nat.le_refl _, fun _ _ _ => rfl⟩
theorem Moved.trans {T : Nat → Prop} {a b c : World} (h : Moved T a b) (k : Moved T b c) : Moved T a c :=
  ⟨k.os.trans h.os, k.tape.trans h.tape, k.output.trans h.output, Nat.le_trans h.size k.size, fun g hg hT => (k.block g (Nat.lt_of_lt_of_le hg h.size) hT).trans (h.block g hg hT)⟩
theorem Moved.cell {T : Nat → Prop} {w w' : World} (h : Moved T w w') {p : Addr} (hlt : p.block < w.heap.size) (hT : ¬ T p.block) : w'.cell? p = w.cell? p := World.cell?_of_block (h.block p.block hlt hT)
theorem Moved.imp {T U : Nat → Prop} {w w' : World} (h : Moved T w w') (hTU : ∀ g, T g → U g) : Moved U w w' := ⟨h.os, h.tape, h.output, h.size, fun g hg hU => h.block g hg fun hT => hU (hTU g hT)⟩
theorem Moved.of_below {T : Nat → Prop} {w w' : World} (h : Below w.heap.size w w') : Moved T w w' := ⟨h.os, h.tape, h.output, h.size, fun g hg _ => h.block g hg⟩
/-- The blocks that a loop may change: those that T admits and that stood at w, and those from B on. -/
def Star (w : World) (T : Nat → Prop) (B : Nat) : Nat → Prop := fun g => (T g ∧ g < w.heap.size) ∨ B ≤ g
/-- Within a function that began at w and has boxes of its own below B. -/
structure In (w : World) (T : Nat → Prop) (B : Nat) (bx : List (Nat × Value × TypeId)) (W : World) : Prop where
  moved : Moved T w W
  low : w.heap.size ≤ B
  size : B ≤ W.heap.size
  box : ∀ p ∈ bx, w.heap.size ≤ p.1 ∧ p.1 < B ∧ W.heap[p.1]? = some (.cells #[p.2.1] p.2.2 (0, 0))
theorem Star.not {w : World} {T : Nat → Prop} {B g : Nat} (h1 : w.heap.size ≤ g) (h2 : g < B) : ¬ Star w T B g := fun h => by rcases h with ⟨_, h⟩ | h <;> omega
theorem In.step {w : World} {T U : Nat → Prop} {B : Nat} {bx : List (Nat × Value × TypeId)} {W W' : World} (h : In w U B bx W) (hTU : ∀ g, T g → U g) (hm : Moved (Star w T B) W W') : In w U B bx W' := by
  have hlow := h.low
  have hsz := h.size
  refine ⟨⟨hm.os.trans h.moved.os, hm.tape.trans h.moved.tape, hm.output.trans h.moved.output, Nat.le_trans h.moved.size hm.size, fun g hg hT => ?_⟩, h.low, Nat.le_trans h.size hm.size, fun p hp => ?_⟩
  · exact (hm.block g (by omega) (fun e => by rcases e with ⟨e, _⟩ | e; exact hT (hTU _ e); omega)).trans (h.moved.block g hg hT)
  · obtain ⟨h1, h2, h3⟩ := h.box p hp
    exact ⟨h1, h2, (hm.block p.1 (by omega) (Star.not h1 h2)).trans h3⟩
theorem In.below {w : World} {T : Nat → Prop} {B : Nat} {bx : List (Nat × Value × TypeId)} {W W' : World} (h : In w T B bx W) (hb : Below W.heap.size W W') : In w T B bx W' := h.step (T := fun _ => False) (fun _ h => h.elim) (.of_below hb)
theorem In.put {w : World} {T : Nat → Prop} {B : Nat} {bx : List (Nat × Value × TypeId)} {W : World} (h : In w T B bx W) {l : Nat} (hl : w.heap.size ≤ l) (hn : ∀ p ∈ bx, p.1 ≠ l) (o : Obj) : In w T B bx (W.putObj l o) :=
  ⟨⟨h.moved.os, h.moved.tape, h.moved.output, by rw [World.putObj_size]; exact h.moved.size, fun g hg hT => (World.putObj_heap_other (by omega)).trans (h.moved.block g hg hT)⟩, h.low, by rw [World.putObj_size]; exact h.size,
    fun p hp => ⟨(h.box p hp).1, (h.box p hp).2.1, (World.putObj_heap_other (hn p hp)).trans (h.box p hp).2.2⟩⟩
theorem cells_one {w : World} {b : Nat} {u : Value} {t : TypeId} (h : w.heap[b]? = some (.cells #[u] t (0, 0))) : w.cell? ⟨b, 0, none⟩ = some u ∧ w.frozen? ⟨b, 0, none⟩ = false := by
  constructor <;> simp [World.cell?, World.frozen?, h]
theorem heap_set_one {w : World} {b : Nat} {u x : Value} {t : TypeId} (h : w.heap[b]? = some (.cells #[u] t (0, 0))) : (w.setCell ⟨b, 0, none⟩ x).heap[b]? = some (.cells #[x] t (0, 0)) := by
  show (w.heap.modify b _)[b]? = _
  rw [Array.getElem?_modify, if_pos rfl, h]
  rfl
theorem In.set {w : World} {T : Nat → Prop} {B b : Nat} {u : Value} {t : TypeId} {bx : List (Nat × Value × TypeId)} {W : World} (h : In w T B ((b, u, t) :: bx) W) (hn : ∀ p ∈ bx, p.1 ≠ b) (x : Value) : In w T B ((b, x, t) :: bx) (W.setCell ⟨b, 0, none⟩ x) := by
  obtain ⟨h1, h2, h3⟩ := h.box (b, u, t) (by simp)
  have hsz : (W.setCell ⟨b, 0, none⟩ x).heap.size = W.heap.size := by simp
  refine ⟨⟨h.moved.os, h.moved.tape, h.moved.output, by rw [hsz]; exact h.moved.size, fun g hg hT => (Below.heap_setCell _ _ _ _ (by show g ≠ b; simp at h1; omega)).trans (h.moved.block g hg hT)⟩, h.low, by rw [hsz]; exact h.size, fun p hp => ?_⟩
  rcases List.mem_cons.1 hp with rfl | hp
  · exact ⟨h1, h2, heap_set_one h3⟩
  · obtain ⟨k1, k2, k3⟩ := h.box p (by simp [hp])
    exact ⟨k1, k2, (Below.heap_setCell _ _ _ _ (hn p hp)).trans k3⟩
theorem In.sub {w : World} {T : Nat → Prop} {B : Nat} {bx bx' : List (Nat × Value × TypeId)} {W : World} (h : In w T B bx W) (hs : ∀ p ∈ bx', p ∈ bx) : In w T B bx' W := ⟨h.moved, h.low, h.size, fun p hp => h.box p (hs p hp)⟩
theorem In.b0 {w : World} {T : Nat → Prop} {B : Nat} {p : Nat × Value × TypeId} {bx : List (Nat × Value × TypeId)} {W : World} (h : In w T B (p :: bx) W) : W.cell? ⟨p.1, 0, none⟩ = some p.2.1 ∧ W.frozen? ⟨p.1, 0, none⟩ = false := cells_one (h.box p (.head _)).2.2
theorem In.b1 {w : World} {T : Nat → Prop} {B : Nat} {p q : Nat × Value × TypeId} {bx : List (Nat × Value × TypeId)} {W : World} (h : In w T B (q :: p :: bx) W) : W.cell? ⟨p.1, 0, none⟩ = some p.2.1 ∧ W.frozen? ⟨p.1, 0, none⟩ = false := cells_one (h.box p (.tail _ (.head _))).2.2
theorem In.b2 {w : World} {T : Nat → Prop} {B : Nat} {p q r : Nat × Value × TypeId} {bx : List (Nat × Value × TypeId)} {W : World} (h : In w T B (q :: r :: p :: bx) W) : W.cell? ⟨p.1, 0, none⟩ = some p.2.1 ∧ W.frozen? ⟨p.1, 0, none⟩ = false := cells_one (h.box p (.tail _ (.tail _ (.head _)))).2.2
theorem In.b3 {w : World} {T : Nat → Prop} {B : Nat} {p q r s : Nat × Value × TypeId} {bx : List (Nat × Value × TypeId)} {W : World} (h : In w T B (q :: r :: s :: p :: bx) W) : W.cell? ⟨p.1, 0, none⟩ = some p.2.1 ∧ W.frozen? ⟨p.1, 0, none⟩ = false := cells_one (h.box p (.tail _ (.tail _ (.tail _ (.head _))))).2.2
theorem In.b4 {w : World} {T : Nat → Prop} {B : Nat} {p q r s t : Nat × Value × TypeId} {bx : List (Nat × Value × TypeId)} {W : World} (h : In w T B (q :: r :: s :: t :: p :: bx) W) : W.cell? ⟨p.1, 0, none⟩ = some p.2.1 ∧ W.frozen? ⟨p.1, 0, none⟩ = false := cells_one (h.box p (.tail _ (.tail _ (.tail _ (.tail _ (.head _)))))).2.2
/-- New blocks, one behind the other. -/
def allocs (w : World) : List Obj → World
  | [] => w
  | o :: os => allocs (w.alloc o) os
theorem allocs_below : ∀ (os : List Obj) (w : World), Below w.heap.size w (allocs w os)
  | [], w => Below.refl _ _
  | o :: os, w => ((Below.refl _ _).alloc (Nat.le_refl _) o).trans ((allocs_below os (w.alloc o)).mono (by simp))
theorem allocs_size : ∀ (os : List Obj) (w : World), (allocs w os).heap.size = w.heap.size + os.length
  | [], w => rfl
  | o :: os, w => by show (allocs (w.alloc o) os).heap.size = _; rw [allocs_size os]; simp; omega
theorem allocs_at : ∀ (os : List Obj) (w : World) (j : Nat), j < os.length → (allocs w os).heap[w.heap.size + j]? = os[j]?
  | o :: os, w, 0, _ => by
    show (allocs (w.alloc o) os).heap[w.heap.size]? = some o
    rw [(allocs_below os (w.alloc o)).block w.heap.size (by simp)]
    exact heap_alloc_new w o
  | o :: os, w, j + 1, h => by
    have := allocs_at os (w.alloc o) j (by simpa using h)
    rw [World.size_alloc] at this
    show (allocs (w.alloc o) os).heap[w.heap.size + (j + 1)]? = os[j]?
    rwa [show w.heap.size + (j + 1) = w.heap.size + 1 + j by omega]
theorem In.start {w W : World} {U : Nat → Prop} {bx : List (Nat × Value × TypeId)} (hb : Below w.heap.size w W) (hbx : ∀ p ∈ bx, w.heap.size ≤ p.1 ∧ W.heap[p.1]? = some (.cells #[p.2.1] p.2.2 (0, 0))) {B : Nat} (hB : B = W.heap.size + 2) (d o : Obj) : In w U B bx ((W.alloc d).alloc o) := by
  have h2 : Below W.heap.size W ((W.alloc d).alloc o) := ((Below.refl _ _).alloc (Nat.le_refl _) _).alloc (by simp) _
  have h1 := hb.trans (h2.mono hb.size)
  have hsz := hb.size
  refine ⟨.of_below h1, by omega, by rw [hB]; simp, fun p hp => ?_⟩
  obtain ⟨k1, k2⟩ := hbx p hp
  have hlt : p.1 < W.heap.size := (Array.getElem?_eq_some_iff.1 k2).1
  exact ⟨k1, by omega, (h2.block _ hlt).trans k2⟩
theorem Moved.same2 {w W W' : World} {T : Nat → Prop} {B D : Nat} (h : Moved (Star w T B) W W') (h1 : w.heap.size ≤ D) (h2 : D + 2 ≤ B) (h3 : D + 1 < W.heap.size) : Same2 D W W' :=
  ⟨h.block D (by omega) (Star.not h1 (by omega)), h.block (D + 1) h3 (Star.not (by omega) (by omega))⟩
theorem same2_set {D k : Nat} {W : World} {x : Value} (h1 : k ≠ D) (h2 : k ≠ D + 1) : Same2 D W (W.setCell ⟨k, 0, none⟩ x) := ⟨Below.heap_setCell _ _ _ _ (fun e => h1 e.symm), Below.heap_setCell _ _ _ _ (fun e => h2 e.symm)⟩
theorem Same2.of_below {D : Nat} {W W' : World} (h : Below W.heap.size W W') (hD : D + 1 < W.heap.size) : Same2 D W W' := ⟨h.block D (by omega), h.block (D + 1) hD⟩
theorem Same2.drewN {D : Nat} {W W' : World} (h : Same2 D W W') (n : Nat) : Same2 D W (W'.drewN n) := h
theorem In.drewN {w W : World} {U : Nat → Prop} {B : Nat} {bx : List (Nat × Value × TypeId)} (h : In w U B bx W) (n : Nat) : In w U B bx (W.drewN n) := h.below (below_drewN' (Below.refl _ _) n)
theorem Moved.to_below {w w' : World} (h : Moved (fun _ => False) w w') : Below w.heap.size w w' := ⟨h.os, h.tape, h.output, h.size, fun g hg => h.block g hg fun h => h⟩
end Go.Proofs.YthmkllpdkcmccaaGreatDoor
/- The last step of a law's row, whatever the arguments' types: where the call only laid new blocks, every argument reads behind it as it read before, and the result true is read. No program is named here. -/
namespace Go.Proofs.YthmkllpdkcmccaaGreatDoor
open Go.RowKit Go.ChangeShapes Go.WideShapes
set_option maxRecDepth 100000
set_option linter.unusedVariables false
set_option linter.unusedSimpArgs false

theorem readable_all {P : Program} {t : TypeId} {ts : List TypeId} (h : ((t :: ts).all fun t => P.readableRec t && decide (t < P.types.size)) = true) : P.readableRec t = true ∧ t < P.types.size ∧ (ts.all fun t => P.readableRec t && decide (t < P.types.size)) = true := by
  simp only [List.all_cons, Bool.and_eq_true, decide_eq_true_eq] at h
  exact ⟨h.1.1, h.1.2, h.2⟩
/-- All arguments read as before. -/
theorem stays_all {H : Type} {enc : TypeId × Value → H} {P : Program} (hl : laidOutB P = true) {W W' : World} {sp : Nat → Bool} :
    ∀ {ts : List TypeId} {vs : List Value} {ds : List (DataW H)} {ps : List MemPlace}, (ts.all fun t => P.readableRec t && decide (t < P.types.size)) = true →
      DataW.TrodAll enc P W 0 (fun _ => true) true ts vs ds ps → (∀ x ∈ ps, W.sameAt W' x) → (∀ x ∈ ps, sp x.block = true) → DataW.TrodAll enc P W' 0 sp true ts vs ds ps
  | [], [], [], _, _, h, _, _ => h
  | [], _ :: _, _, _, _, h, _, _ => h.elim
  | [], [], _ :: _, _, _, h, _, _ => h.elim
  | _ :: _, [], _, _, _, h, _, _ => h.elim
  | _ :: _, _ :: _, [], _, _, h, _, _ => h.elim
  | t :: ts, v :: vs, d :: ds, ps, hr, h, hs, hp => by
    obtain ⟨p, q, h1, h2, rfl⟩ := h
    obtain ⟨r1, r2, r3⟩ := readable_all hr
    exact ⟨p, q, WideElems.Trod_stays hl r1 r2 h1 (fun x hx => hs x (by simp [hx])) (fun x hx => hp x (by simp [hx])), stays_all hl r3 h2 (fun x hx => hs x (by simp [hx])) (fun x hx => hp x (by simp [hx])), rfl⟩

/-- A law's row. -/
theorem post_law {H : Type} {enc : TypeId × Value → H} {P : Program} {f : Func} {s : ChangeSpec} {W W' : World} {args : Array Value} {ds : List (DataW H)} {before : List MemPlace} {tb : TypeId}
    (hl : laidOutB P = true) (hr : (f.params.toList.all fun t => P.readableRec t && decide (t < P.types.size)) = true) (hb : P.underlying tb = some .bool) (hres : f.resultTypes = #[tb])
    (hW : DataW.Whole enc P f.params.toList s.vars false W args.toList ds [] before) (hA : DataW.TrodAll enc P W 0 (fun _ => true) true f.params.toList args.toList ds before)
    (hfn : s.fn H ds = { results := [.lit (.bool true)], args := ds }) (hv : s.vars = []) (h : Below W.heap.size W W') :
    s.post enc P f false true false false W args (.bool true) W' := by
  have hlt : ∀ p ∈ before, p.block < W.heap.size := fun p hp => by simpa using hW.lt p hp
  have hfn' : s.fn H (ds ++ []) = { results := [.lit (.bool true)], args := ds } := by rw [List.append_nil]; exact hfn
  refine ⟨ds, [], before, [], before, [], hW, ?_, ?_, ?_, World.keptBut_mono (fun p hp => ⟨hp, ?_⟩) (h.frame (· ∈ before)), fun hf => ?_⟩
  · rw [hfn', hres]; exact trodAll_cons_mk (shut_bool hb true) rfl
  · rw [hfn']; exact stays_all hl hr hA (fun p hp => h.same (hlt p hp)) (fun p hp => by simpa using hlt p hp)
  · rw [hfn', hv]; exact rfl
  · exact Or.inr (Or.inl hp)
  · exact absurd hf (by decide)
end Go.Proofs.YthmkllpdkcmccaaGreatDoor
/- Opening a slice of words that came in. No program is named here. -/
namespace Go.Proofs.YthmkllpdkcmccaaGreatDoor
open Go.RowKit Go.ChangeShapes Go.WideShapes
set_option maxRecDepth 100000
set_option linter.unusedVariables false
set_option linter.unusedSimpArgs false

end Go.Proofs.YthmkllpdkcmccaaGreatDoor
/- Opening a text that came in. No program is named here. -/
namespace Go.Proofs.YthmkllpdkcmccaaGreatDoor
open Go.RowKit Go.ChangeShapes Go.WideShapes
set_option maxRecDepth 100000
set_option linter.unusedVariables false
set_option linter.unusedSimpArgs false

end Go.Proofs.YthmkllpdkcmccaaGreatDoor
/- Opening points, pairs of points and pairs of slices that came in. No program is named here. -/
namespace Go.Proofs.YthmkllpdkcmccaaGreatDoor
open Go.RowKit Go.ChangeShapes Go.WideShapes
set_option maxRecDepth 100000
set_option linter.unusedVariables false
set_option linter.unusedSimpArgs false

section
variable {H : Type} {enc : TypeId × Value → H} {P : Program} {W : World} {base : Nat} {held : Bool}
/-- Two integers, by their cells. -/
theorem point_cells {t e : TypeId} {f0 f1 : Field} {n : Nat} {cs : List Value} {x : DataW H × List MemPlace} (hu : P.underlying t = some (.struct #[f0, f1])) (h0 : P.underlying f0.type = some (.int .i64)) (h1 : P.underlying f1.type = some (.int .i64)) (o0 : f0.offset = 0) (o1 : f1.offset = 1) (c0 : P.cellsOf f0.type = 1) (c1 : P.cellsOf f1.type = 1) (ct : P.cellsOf t = 2) (_he : e = t)
    (h : DataW.trod enc P W base (fun _ => true) held n t cs = some x) : ∃ a b : Int, cs = [.int .i64 a, .int .i64 b] ∧ (Lit.int .i64 a).wf = true ∧ (Lit.int .i64 b).wf = true := by
  obtain ⟨y0, y1, m, _, hl, k0, k1⟩ := trod_struct2 hu h
  rw [ct] at hl
  rw [o0, c0] at k0
  rw [o1, c1] at k1
  match cs, hl with
  | [v0, v1], _ =>
    obtain ⟨a, ha, _, wa⟩ := DataW.trod_int h0 k0
    obtain ⟨b, hb, _, wb⟩ := DataW.trod_int h1 k1
    simp [Value.cells] at ha hb
    exact ⟨a, b, by rw [ha, hb], wa, wb⟩
theorem open_point {t : TypeId} {f0 f1 : Field} {r : Reach} {b0 : Nat} {v : Value} {d : DataW H} {p : List MemPlace} (hu : P.underlying t = some (.struct #[f0, f1])) (h0 : P.underlying f0.type = some (.int .i64)) (h1 : P.underlying f1.type = some (.int .i64)) (o0 : f0.offset = 0) (o1 : f1.offset = 1) (c0 : P.cellsOf f0.type = 1) (c1 : P.cellsOf f1.type = 1) (ct : P.cellsOf t = 2)
    (hv : Value.okWide P W r b0 t v) (h : DataW.Trod enc P W base (fun _ => true) held t v d p) : ∃ a b : Int, v = .agg #[.int .i64 a, .int .i64 b] ∧ (Lit.int .i64 a).wf = true ∧ (Lit.int .i64 b).wf = true := by
  obtain ⟨cs, rfl, _⟩ := okWide_struct hu hv
  obtain ⟨fuel, hf⟩ := h
  obtain ⟨a, b, hcs, wa, wb⟩ := point_cells (e := t) hu h0 h1 o0 o1 c0 c1 ct rfl hf
  refine ⟨a, b, ?_, wa, wb⟩
  have : cs.toList = [.int .i64 a, .int .i64 b] := by simpa [Value.cells] using hcs
  rw [← Array.toArray_toList (xs := cs), this]
end
end Go.Proofs.YthmkllpdkcmccaaGreatDoor
namespace Go.Proofs.YthmkllpdkcmccaaGreatDoor
open Go.RowKit Go.ChangeShapes Go.WideShapes
set_option maxRecDepth 100000
set_option linter.unusedVariables false
set_option linter.unusedSimpArgs false

/-- Elements of k cells each, in memory. -/
def RowR {α : Type} (w : World) (S : Nat → Prop) (k : Nat) (C : α → List Value) (A : Option Addr) (l : List α) : Prop :=
  0 < l.length → ∃ b o, A = some ⟨b, o, none⟩ ∧ S b ∧ ∀ j x, l[j]? = some x → ∀ q u, (C x)[q]? = some u → w.cell? ⟨b, o + (j * k + q), none⟩ = some u
section
variable {H : Type} {enc : TypeId × Value → H} {P : Program} {W : World} {base : Nat} {held : Bool}
/-- A slice, by its cells. -/
theorem row_cells {α : Type} {t e : TypeId} {k n : Nat} {cs : List Value} {y : DataW H × List MemPlace} (C : α → List Value) (Wf : α → Prop) (ht : P.underlying t = some (.slice e)) (hc : P.cellsOf e = k) (hk : 0 < k)
    (hE : ∀ n cs y, DataW.trod enc P W base (fun _ => true) held n e cs = some y → ∃ x, cs = C x ∧ Wf x) (h : DataW.trod enc P W base (fun _ => true) held n t cs = some y) :
    ∃ (A : Option Addr) (c : Nat) (l : List α), cs = [.slice A l.length c] ∧ RowR W (fun _ => True) k C A l ∧ (∀ x ∈ l, Wf x) ∧ l.length ≤ c ∧ c ≤ maxLen ∧ (A = none → c = 0) := by
  rcases Go.Deep.open_slice ht h with ⟨hcs, _⟩ | ⟨a, len, cap, m, n', D, Pl, hcs, _, hl, hm, hmm, _, hi⟩
  · exact ⟨none, 0, [], hcs, fun h => absurd h (by simp), (fun x h => by cases h), Nat.le_refl _, Nat.zero_le _, fun _ => rfl⟩
  · have hmm : m = cap := by simpa using hmm
    have key : ∀ i, i < len → ∃ x : α, (∀ q u, (C x)[q]? = some u → W.cell? (a.add (i * k + q)) = some u) ∧ Wf x := fun i hil => by
      obtain ⟨cs', h1, h2⟩ := hi i (by omega)
      obtain ⟨x, rfl, hw⟩ := hE _ _ _ h2
      rw [hc] at h1
      obtain ⟨_, hlen, hat⟩ := World.cells?_some h1
      refine ⟨x, fun q u hq => ?_, hw⟩
      have hqk : q < k := by rw [← hlen]; exact (List.getElem?_eq_some_iff.1 hq).1
      have := hat q hqk
      rw [hq] at this
      rw [← Go.Deep.add_add, this]
    by_cases h0 : 0 < len
    · obtain ⟨x0, _⟩ := key 0 h0
      have : Inhabited α := ⟨x0⟩
      obtain ⟨f, hf⟩ := Go.Deep.choose_lt key
      obtain ⟨cs', h1, h2⟩ := hi 0 (by omega)
      rw [hc] at h1
      obtain ⟨_, hlen, hat⟩ := World.cells?_some h1
      obtain ⟨b, off, spot⟩ := a
      have hspot : spot = none := by
        have := hat 0 hk
        rw [List.getElem?_eq_getElem (by omega)] at this
        simpa [Addr.add] using World.cell?_spot this
      subst hspot
      have hln : ((List.range len).map f).length = len := by simp
      refine ⟨some ⟨b, off, none⟩, cap, (List.range len).map f, by rw [hln]; exact hcs, fun _ => ⟨b, off, rfl, trivial, fun j x hx q u hq => ?_⟩, fun x hx => ?_, by rw [hln]; exact hl, hm, fun h => by cases h⟩
      · have hj : j < len := by have := (List.getElem?_eq_some_iff.1 hx).1; rwa [hln] at this
        have hxj : x = f j := by simpa [hj] using hx.symm
        subst hxj
        have := (hf j hj).1 q u hq
        rwa [Go.WideShapes.add_plain] at this
      · obtain ⟨i, hi', rfl⟩ := List.mem_map.1 hx
        exact (hf i (List.mem_range.1 hi')).2
    · obtain rfl : len = 0 := by omega
      exact ⟨some a, cap, [], hcs, fun h => absurd h (by simp), (fun x h => by cases h), Nat.zero_le _, hm, fun h => by cases h⟩
theorem open_row {α : Type} {t e : TypeId} {k : Nat} {r : Reach} {b0 : Nat} {v : Value} {d : DataW H} {p : List MemPlace} (C : α → List Value) (Wf : α → Prop) (ht : P.underlying t = some (.slice e)) (hc : P.cellsOf e = k) (hk : 0 < k)
    (hE : ∀ n cs y, DataW.trod enc P W base (fun _ => true) held n e cs = some y → ∃ x, cs = C x ∧ Wf x) (hv : Value.okWide P W r b0 t v) (h : DataW.Trod enc P W base (fun _ => true) held t v d p) :
    ∃ (A : Option Addr) (c : Nat) (l : List α), v = .slice A l.length c ∧ RowR W (fun _ => True) k C A l ∧ (∀ x ∈ l, Wf x) ∧ l.length ≤ c ∧ c ≤ maxLen ∧ (A = none → c = 0) := by
  obtain ⟨A0, len0, cap0, rfl⟩ := okWide_slice ht hv
  obtain ⟨fuel, hf⟩ := h
  obtain ⟨A, c, l, hcs, rest⟩ := row_cells C Wf ht hc hk hE hf
  simp [Value.cells] at hcs
  obtain ⟨rfl, rfl, rfl⟩ := hcs
  exact ⟨_, _, l, rfl, rest⟩
/-- Structs of integers, by their cells. -/
theorem ints2_cells {e : TypeId} {kd : IntKind} {f0 f1 : Field} {n : Nat} {cs : List Value} {y : DataW H × List MemPlace} (hu : P.underlying e = some (.struct #[f0, f1])) (h0 : P.underlying f0.type = some (.int kd)) (h1 : P.underlying f1.type = some (.int kd)) (o : f0.offset = 0 ∧ f1.offset = 1) (c : P.cellsOf f0.type = 1 ∧ P.cellsOf f1.type = 1) (ct : P.cellsOf e = 2)
    (h : DataW.trod enc P W base (fun _ => true) held n e cs = some y) : ∃ a b : Int, cs = [.int kd a, .int kd b] ∧ (Lit.int kd a).wf = true ∧ (Lit.int kd b).wf = true := by
  obtain ⟨y0, y1, m, _, hl, k0, k1⟩ := trod_struct2 hu h
  rw [ct] at hl
  rw [o.1, c.1] at k0
  rw [o.2, c.2] at k1
  match cs, hl with
  | [v0, v1], _ =>
    obtain ⟨a, ha, _, wa⟩ := DataW.trod_int h0 k0
    obtain ⟨b, hb, _, wb⟩ := DataW.trod_int h1 k1
    simp [Value.cells] at ha hb
    exact ⟨a, b, by rw [ha, hb], wa, wb⟩
/-- A struct by value, out of what its cells are. -/
theorem open_agg {α : Type} {t : TypeId} {fs : Array Field} {r : Reach} {b0 : Nat} {v : Value} {d : DataW H} {p : List MemPlace} (C : α → List Value) (Wf : α → Prop) (hu : P.underlying t = some (.struct fs))
    (hE : ∀ n cs y, DataW.trod enc P W base (fun _ => true) held n t cs = some y → ∃ x, cs = C x ∧ Wf x) (hv : Value.okWide P W r b0 t v) (h : DataW.Trod enc P W base (fun _ => true) held t v d p) : ∃ x, v = .agg (C x).toArray ∧ Wf x := by
  obtain ⟨cs, rfl, _⟩ := okWide_struct hu hv
  obtain ⟨fuel, hf⟩ := h
  obtain ⟨x, hcs, hw⟩ := hE _ _ _ hf
  refine ⟨x, ?_, hw⟩
  have : cs.toList = C x := by simpa [Value.cells] using hcs
  rw [← this, Array.toArray_toList]
end
theorem RowR.sl {w : World} {S : Nat → Prop} {kd : IntKind} {A : Option Addr} {l : List Int} (h : RowR w S 1 (fun a => [Value.int kd a]) A l) : SlR w S kd A l := fun h0 => by
  obtain ⟨b, o, rfl, hb, hc⟩ := h h0
  exact ⟨b, o, rfl, hb, fun j d hd => by simpa using hc j d hd 0 _ rfl⟩
end Go.Proofs.YthmkllpdkcmccaaGreatDoor
