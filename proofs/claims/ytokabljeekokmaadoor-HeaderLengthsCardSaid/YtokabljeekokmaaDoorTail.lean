/-
  A region whose last operations come behind all others (a store of what the others reckon), in whatever order these come; and within a round of a range over a function.
-/
import Derived.Test.YtokabljeekokmaaDoorBox
import Derived.RangeFuncCalls
import Derived.OrdersIn
import Derived.TacticsIn
import Derived.Deep.QuietTactic
import Derived.BigQuiet
namespace Go.Proofs.YtokabljeekokmaaDoor
open Go.RowKit
set_option maxRecDepth 100000
set_option linter.unusedVariables false
set_option linter.unusedSimpArgs false

section
variable {P : Program} {ops : Array Oper} {Q : Exit → Act → World → Prop}
/-! ### Within a round -/
theorem oper_round {o : Oper} {a : Act} {w : World} {K : Act → World → Prop} {l n : Nat} (hd : ∀ c, o.op ≠ .defer c) (h : o.wp P a w K Q) : o.wpIn (Fence.wide.inRound l) n P a w K Q := by
  unfold Oper.wpIn
  refine ⟨fun _ _ => trivial, ?_⟩
  show o.uponIn _ n P a K Q ((o.semAt (some l) a.eval).run P w)
  rw [Oper.semAt_some l _ o hd]
  unfold Oper.wp at h
  generalize (execOp a.eval o).run P w = r at *
  cases r with
  | ok x w' =>
    cases x <;> simp only [Oper.uponIn, Oper.upon] at h ⊢
    case value => exact h
    case skip => exact h
    case defer => exact h
    case enter f args => exact ⟨fun h => by simp [Fence.inRound, Fence.wide] at h, callsIn_wide.2 h⟩
    case row row args => exact ⟨fun h => by simp [Fence.inRound, Fence.wide] at h, fun c cs _ => let ⟨v, w', r, s⟩ := h c cs; ⟨v, w', r, stepsIn_wide.2 s⟩⟩
  | halt x w' => cases x <;> simp only [Oper.uponIn, Oper.upon] at h ⊢ <;> exact h
def noDefer (ops : Array Oper) : Bool := ops.all fun o => match o.op with | .defer _ => false | _ => true
theorem wpOp_round {i : Nat} {K : Act → World → Prop} {a : Act} {w : World} {l n : Nat} (hd : noDefer ops = true) (hQ : ∀ a w, ¬ Q .outgrown a w) (h : wpOp P ops Q i K a w) : wpOpIn (Fence.wide.inRound l) n P ops Q i K a w := by
  unfold wpOp at h
  unfold wpOpIn
  cases ho : ops[i]? with
  | none => rw [ho] at h; exact h
  | some o =>
    rw [ho] at h
    simp only at h ⊢
    have hdo : ∀ c, o.op ≠ .defer c := fun c e => by
      have := Array.all_eq_true_iff_forall_mem.1 hd o (Array.mem_of_getElem? ho)
      rw [e] at this; cases this
    split
    · rename_i hw
      rw [if_pos hw] at h
      rcases h with h | ⟨_, a', w', h⟩
      · exact oper_round hdo h
      · exact absurd h (hQ _ _)
    · rename_i hw
      rw [if_neg hw] at h
      exact ⟨fun _ _ => trivial, h⟩
theorem wpAny_round {l n : Nat} (hd : noDefer ops = true) (hQ : ∀ a w, ¬ Q .outgrown a w) : ∀ (fuel : Nat) (listed : Array Bool) (a : Act) (w : World), wpAny P .any ops Q fuel listed a w → wpAnyIn (Fence.wide.inRound l) n P .any ops Q fuel listed a w
  | 0, listed, a, w, h => h
  | fuel + 1, listed, a, w, h => ⟨h.1, fun i hi => wpOpIn_mono (fun a w => wpAny_round hd hQ fuel _ a w) (wpOp_round hd hQ (h.2 i hi))⟩
/-- A region in whatever order, in a round. -/
theorem region_round {id l n : Nat} {a : Act} {w : World} (hm : P.follows .mixedOrders = true) (hd : noDefer ops = true) (hQ : ∀ a w, ¬ Q .outgrown a w)
    (h : wpAny P .any ops (NoPanic Q) ops.size (Array.replicate ops.size false) a w.drew) : (Code.region id ops true).wpIn (Fence.wide.inRound l) n P Q a w :=
  wpIn_mono (Q' := Q) (wpIn_region_any (Q := NoPanic Q) hm (wpAny_round (Q := NoPanic Q) hd (fun a w h => hQ a w h) _ _ _ _ h)) NoPanic.imp
/-- A region that reads alone, in a round: one walk in the text's order ('repeat (go_big_quiet_step (fail)); refine wpQuiet_nil ?_'). -/
theorem quiet_round {id r n : Nat} {a : Act} {w : World} {l : List Oper} (hm : P.follows .mixedOrders = true) (hB : Region.lexB .any l.toArray = true) (hd : noDefer l.toArray = true) (hQ : ∀ a w, ¬ Q .outgrown a w)
    (h : wpQuiet P l.toArray (fun w' => ∃ n, w' = w.drewN n) (fun a' => ∀ w', (∃ n, w' = w.drewN n) → Q .normal a' w') l a) : (Code.region id l.toArray true).wpIn (Fence.wide.inRound r) n P Q a w := by
  simp only [Region.lexB, Bool.and_eq_true] at hB
  refine region_round hm hd hQ (wpAny_of_quiet (Q := fun a' => ∀ w', (∃ n, w' = w.drewN n) → NoPanic Q .normal a' w') (fun _ w' hw' h => h w' hw') _ _ _ _ ⟨1, rfl⟩ ?_)
  have := wpAnyQ_lex (C := fun w' => ∃ n, w' = w.drewN n) (md := .any) hB.1 l 0 (Array.replicate l.toArray.size false) a (by simp) (by simpa using hB.2) h
  exact this
/-! ### The last operations -/
/-- The ancestors of the first k operations. -/
def ancs (ops : Array Oper) : Nat → List (List Nat)
  | 0 => []
  | k + 1 => ancs ops k ++ [match ops[k]? with | some o => (o.after.toList.filter fun e => Region.binds .any e).flatMap fun e => e.on :: (ancs ops k).getD e.on [] | none => []]
theorem ancs_len (ops : Array Oper) : ∀ k, (ancs ops k).length = k
  | 0 => rfl
  | k + 1 => by unfold ancs; rw [List.length_append, ancs_len ops k]; rfl
theorem ancs_at (ops : Array Oper) : ∀ (n k : Nat), k < n → (ancs ops n).getD k [] = (match ops[k]? with | some o => (o.after.toList.filter fun e => Region.binds .any e).flatMap fun e => e.on :: (ancs ops k).getD e.on [] | none => [])
  | n + 1, k, h => by
    by_cases e : k = n
    · subst e
      rw [ancs, List.getD_eq_getElem?_getD, List.getElem?_append_right (by rw [ancs_len]; exact Nat.le_refl _), ancs_len, Nat.sub_self]; rfl
    · rw [ancs, List.getD_eq_getElem?_getD, List.getElem?_append_left (by rw [ancs_len]; omega), ← List.getD_eq_getElem?_getD]
      exact ancs_at ops n k (by omega)
theorem ancs_same (ops : Array Oper) {n m k : Nat} (h1 : k < n) (h2 : k < m) : (ancs ops n).getD k [] = (ancs ops m).getD k [] := by rw [ancs_at ops n k h1, ancs_at ops m k h2]
/-- Where each listed operation's own are listed, all ancestors are. -/
theorem ancs_listed {pre : List (List (Nat × Nat))} (hk : RgOk ops pre) {L : Nat → Bool} (hcl : ∀ j o, ops[j]? = some o → L j = true → ∀ e ∈ o.after, Region.binds .any e = true → L e.on = true) :
    ∀ (k : Nat) (o : Oper), ops[k]? = some o → (∀ e ∈ o.after, Region.binds .any e = true → L e.on = true) → ∀ x ∈ (ancs ops ops.size).getD k [], L x = true := by
  intro k
  induction k using Nat.strongRecOn with
  | ind k ih =>
    intro o ho hall x hx
    have hlt : k < ops.size := (Array.getElem?_eq_some_iff.1 ho).1
    rw [ancs_at ops ops.size k hlt, ho] at hx
    simp only [List.mem_flatMap, List.mem_filter, Array.mem_toList_iff] at hx
    obtain ⟨e, ⟨he, hb⟩, hx⟩ := hx
    have hon := hall e he hb
    have hdn := hk.down ho e he hb
    rcases List.mem_cons.1 hx with rfl | hx
    · exact hon
    · have hlt2 : e.on < ops.size := by omega
      have ho2 : ops[e.on]? = some ops[e.on] := Array.getElem?_eq_getElem hlt2
      rw [ancs_same ops hdn hlt2] at hx
      exact ih e.on hdn _ ho2 (fun e' he' hb' => hcl _ _ ho2 hon e' he' hb') x hx
/-- From m on each operation comes behind all that stand ahead of it. -/
def tailChk (ops : Array Oper) (m : Nat) : Bool := (List.range ops.size).all fun j => Nat.blt j m || (List.range j).all fun i => ((ancs ops ops.size).getD j []).contains i
theorem tailOk {m : Nat} (h : tailChk ops m = true) {i j : Nat} (hj : j < ops.size) (hm : m ≤ j) (hi : i < j) : i ∈ (ancs ops ops.size).getD j [] := by
  have := List.all_eq_true.1 h j (List.mem_range.2 hj)
  rw [Bool.or_eq_true] at this
  rcases this with h1 | h1
  · rw [Nat.blt_eq] at h1; omega
  · have := List.all_eq_true.1 h1 i (List.mem_range.2 hi)
    simpa using this
def Closed (ops : Array Oper) (L : Nat → Bool) : Prop := ∀ j o, ops[j]? = some o → L j = true → ∀ e ∈ o.after, Region.binds .any e = true → L e.on = true
theorem closed_set {listed : Array Bool} {i : Nat} {o : Oper} (ho : ops[i]? = some o) (h : Closed ops (fun j => listed.getD j false)) (hlt : i < listed.size) (hr : ∀ e ∈ o.after, Region.binds .any e = true → listed.getD e.on false = true) :
    Closed ops (fun j => (listed.setIfInBounds i true).getD j false) ∧ (fun j => (listed.setIfInBounds i true).getD j false) = fun j => j == i || listed.getD j false := by
  have hfun : (fun j => (listed.setIfInBounds i true).getD j false) = fun j => j == i || listed.getD j false := funext fun j => by
    by_cases e : j = i
    · subst e
      simp [Array.getD_eq_getD_getElem?, Array.getElem?_setIfInBounds_self_of_lt hlt]
    · rw [getD_set_ne false (Ne.symm e)]
      simp [e]
  refine ⟨?_, hfun⟩
  rw [hfun]
  intro j q hq hl e he hb
  by_cases ej : j = i
  · subst ej
    rw [ho] at hq
    injection hq with hq
    subst hq
    simp [hr e he hb]
  · have hl' : listed.getD j false = true := by simpa [ej] using hl
    have := h j q hq hl' e he hb
    simp [this]
/-- The tail, in the text's order. -/
theorem tail_any {pre : List (List (Nat × Nat))} (hk : RgOk ops pre) {m : Nat} (ht : tailChk ops m = true) : ∀ (d j fuel : Nat) (listed : Array Bool) (a : Act) (w : World), j + d = ops.size → m ≤ j → listed.size = ops.size → d ≤ fuel →
    (∀ i, i < ops.size → listed.getD i false = decide (i < j)) → Closed ops (fun j => listed.getD j false) → wpOps P ops (NoPanic Q) (List.range' j d) a w → wpAny P .any ops (NoPanic Q) fuel listed a w := by
  intro d
  induction d with
  | zero =>
    intro j fuel listed a w hj hm hsz hf hl hcl h
    have hnone : Region.ready .any ops listed = [] := by
      cases hr : Region.ready .any ops listed with
      | nil => rfl
      | cons x r =>
        obtain ⟨h0, o, ho, _⟩ := mem_ready.1 (show x ∈ Region.ready .any ops listed by rw [hr]; simp)
        have hx := (Array.getElem?_eq_some_iff.1 ho).1
        have := hl x hx
        simp [Array.getD_eq_getD_getElem?, Array.getElem?_eq_getElem (show x < listed.size by omega)] at h0 this
        rw [h0] at this
        simp at this
        omega
    cases fuel with
    | zero => exact ⟨hnone, h⟩
    | succ fuel => exact ⟨fun _ => h, fun i hi => by rw [hnone] at hi; cases hi⟩
  | succ d ih =>
    intro j fuel listed a w hj hm hsz hf hl hcl h
    obtain ⟨fuel, rfl⟩ : ∃ f, fuel = f + 1 := ⟨fuel - 1, by omega⟩
    have hjlt : j < ops.size := by omega
    have hoj : ops[j]? = some ops[j] := Array.getElem?_eq_getElem hjlt
    have hjr : j ∈ Region.ready .any ops listed := mem_ready.2 ⟨by
      have := hl j hjlt
      simp [Array.getD_eq_getD_getElem?, Array.getElem?_eq_getElem (show j < listed.size by omega)] at this ⊢; exact this, _, hoj, fun e he hb => by
      have hd := hk.down hoj e he hb
      rw [hl e.on (by omega)]; simp [hd]⟩
    refine ⟨fun hr => (by rw [hr] at hjr; cases hjr), fun i hi => ?_⟩
    obtain ⟨h0, o, ho, hall⟩ := mem_ready.1 hi
    have hilt := (Array.getElem?_eq_some_iff.1 ho).1
    have hij : i = j := by
      have h1 := hl i hilt
      have h2 : listed.getD i false = false := by
        simp [Array.getD_eq_getD_getElem?, Array.getElem?_eq_getElem (show i < listed.size by omega)] at h0 ⊢; exact h0
      rw [h2] at h1
      have hge : j ≤ i := by simpa using h1.symm
      by_cases e : i = j
      · exact e
      · exfalso
        have := ancs_listed hk hcl i o ho hall j (tailOk ht hilt (by omega) (by omega))
        rw [hl j hjlt] at this
        simp at this
    subst hij
    rw [List.range'_succ, wpOps_cons] at h
    refine wpOp_mono (fun a' w' hh => ?_) h
    obtain ⟨hcl', hfun⟩ := closed_set ho hcl (by omega) hall
    refine ih (i + 1) fuel _ a' w' (by omega) (by omega) (by simp [hsz]) (by omega) (fun x hx => ?_) hcl' hh
    have hx2 : (listed.setIfInBounds i true).getD x false = (x == i || listed.getD x false) := congrFun hfun x
    show (listed.setIfInBounds i true).getD x false = decide (x < i + 1)
    rw [hx2, hl x hx, Bool.eq_iff_iff]
    simp
    omega
/-- The slots that the first m operations write. -/
def allChkM (ops : Array Oper) (m : Nat) (all : List (Nat × Nat)) : Bool :=
  ((List.range m).all fun i => match ops[i]? with | some o => (match o.dst with | some t => all.contains (t, i) | none => true) | none => false) &&
  (all.all fun p => Nat.blt p.2 m && match ops[p.2]? with | some o => o.dst == some p.1 | none => false)
variable {Γ : Type}
theorem held_upto {a0 : Act} {pre : List (List (Nat × Nat))} {I : Γ → World → Prop} {R : Nat → Value → Γ → World → Prop} {F : Nat → Γ → Prop} {all : List (Nat × Nat)} (hk : RgOk ops pre) {m : Nat} (hall : allChkM ops m all = true)
    {L : Nat → Bool} {vs : Nat → Value} {g : Γ} {a : Act} {w : World} (h : Held ops a0 pre I R F L vs g a w) (hL : ∀ i, i < ops.size → L i = decide (i < m)) : a = fill a0 vs all := by
  have hlt : ∀ {i : Nat} {o : Oper}, ops[i]? = some o → i < ops.size := fun {i o} ho => (Array.getElem?_eq_some_iff.1 ho).1
  unfold allChkM at hall
  rw [Bool.and_eq_true] at hall
  have hin : ∀ (i : Nat) (o : Oper) (t : Nat), ops[i]? = some o → o.dst = some t → i < m → (t, i) ∈ all := fun i o t ho hd him => by
    have := List.all_eq_true.1 hall.1 i (List.mem_range.2 him)
    rw [ho] at this
    simp only [hd] at this
    simpa using this
  have hall2 : ∀ p ∈ all, p.2 < m ∧ ∃ o, ops[p.2]? = some o ∧ o.dst = some p.1 := fun p hp => by
    have := List.all_eq_true.1 hall.2 p hp
    rw [Bool.and_eq_true, Nat.blt_eq] at this
    refine ⟨this.1, ?_⟩
    cases hq : ops[p.2]? with
    | none => rw [hq] at this; cases this.2
    | some q => rw [hq] at this; exact ⟨q, rfl, by simpa using this.2⟩
  have e : a.tmps = (fill a0 vs all).tmps := by
    refine Array.ext_getElem? fun t => ?_
    by_cases hw : ∃ (j : Nat) (q : Oper), ops[j]? = some q ∧ q.dst = some t ∧ j < m
    · obtain ⟨j, q, hq, hd, hjm⟩ := hw
      by_cases hts : t < a0.tmps.size
      · rw [h.slot t j q hq hd (by rw [hL j (hlt hq)]; simp [hjm]) hts, fill_in a0 vs _ t j (hin j q t hq hd hjm) (fun p hp he => by
          obtain ⟨_, q', hq', hd'⟩ := hall2 p hp
          exact hk.one hq hq' hd (by rw [hd', he])) hts]
      · rw [Array.getElem?_eq_none (by rw [h.size]; omega), Array.getElem?_eq_none (by rw [fill_size]; omega)]
    · rw [h.rest t (fun j q hq hd => by
        rw [hL j (hlt hq)]
        simp only [decide_eq_false_iff_not]
        exact fun hjm => hw ⟨j, q, hq, hd, hjm⟩), fill_out a0 vs _ t (fun p hp he => by
        obtain ⟨hpm, q', hq', hd'⟩ := hall2 p hp
        exact hw ⟨_, q', hq', by rw [hd', he], hpm⟩)]
  have ed : a.defers = (fill a0 vs all).defers := by rw [fill_defers]; exact h.defers
  cases a
  cases hf : fill a0 vs all
  rw [hf] at e ed
  simp only at e ed
  rw [e, ed]
/-- All orders of the first m operations, then the others. -/
theorem tail_plan {a0 : Act} {g0 : Γ} {w0 : World} (m : Nat) (pre : List (List (Nat × Nat))) (all : List (Nat × Nat)) (chk : rgChk ops pre = true) (chk2 : allChkM ops m all = true) (chk3 : tailChk ops m = true) (hmn : m ≤ ops.size)
    (I : Γ → World → Prop) (R : Nat → Value → Γ → World → Prop) (G : Nat → Γ → World → Γ → World → Prop) (F : Nat → Γ → Prop)
    (st : ∀ i j v g w g' w', i ≠ j → i < ops.size → R i v g w → G j g w g' w' → R i v g' w') (stF : ∀ i j g w g' w', i ≠ j → F i g → G j g w g' w' → F i g') (start : I g0 w0) (startF : ∀ i, F i g0)
    (steps : StepsL P ops Q a0 pre I R G F (ops.toList.take m) 0)
    (fin : ∀ vs g w, I g w → (∀ i, i < m → R i (vs i) g w) → wpOps P ops (NoPanic Q) (List.range' m (ops.size - m)) (fill a0 vs all) w) :
    wpAny P .any ops (NoPanic Q) ops.size (Array.replicate ops.size false) a0 w0 := by
  have hk := rgOk chk
  have stepAt : ∀ {i : Nat} {o : Oper}, ops[i]? = some o → i < m → StepAt P ops Q a0 pre I R G F o i := fun {i o} ho him => by
    have := stepsL_at steps (i := i) (o := o) (by rw [List.getElem?_take, if_pos him]; simpa using ho)
    rwa [Nat.zero_add] at this
  have key : ∀ (fuel : Nat) (listed : Array Bool) (vs : Nat → Value) (g : Γ) (a : Act) (w : World), listed.size = ops.size → cntF ops.size (fun i => listed.getD i false) ≤ fuel → Closed ops (fun i => listed.getD i false) → (∀ i, m ≤ i → listed.getD i false = false) →
      Held ops a0 pre I R F (fun i => listed.getD i false) vs g a w → wpAny P .any ops (NoPanic Q) fuel listed a w := by
    intro fuel
    induction fuel with
    | zero =>
      intro listed vs g a w hsz hc hcl htl h
      have hall := cntF_zero (Nat.le_zero.1 hc)
      have hme : m = ops.size := by
        by_cases e : m < ops.size
        · have := hall m e; rw [htl m (Nat.le_refl _)] at this; cases this
        · omega
      have hL : ∀ i, i < ops.size → listed.getD i false = decide (i < m) := fun i hi => by rw [hall i hi]; simp; omega
      have := fin vs g w h.inv fun i hi => h.fact i (by omega) (hall i (by omega))
      rw [← held_upto hk chk2 h hL] at this
      exact tail_any hk chk3 0 m 0 listed a w (by omega) (Nat.le_refl _) hsz (Nat.le_refl _) hL hcl (by rw [hme, Nat.sub_self] at this; rw [hme]; exact this)
    | succ fuel ih =>
      intro listed vs g a w hsz hc hcl htl h
      by_cases hfull : ∀ i, i < m → listed.getD i false = true
      · have hL : ∀ i, i < ops.size → listed.getD i false = decide (i < m) := fun i hi => by
          by_cases e : i < m
          · rw [hfull i e]; simp [e]
          · rw [htl i (by omega)]; simp; omega
        have := fin vs g w h.inv fun i hi => h.fact i (by omega) (hfull i hi)
        rw [← held_upto hk chk2 h hL] at this
        refine tail_any hk chk3 (ops.size - m) m (fuel + 1) listed a w (by omega) (Nat.le_refl _) hsz ?_ hL hcl this
        refine Nat.le_trans ?_ hc
        unfold cntF
        rw [show List.range ops.size = List.range' 0 m ++ List.range' m (ops.size - m) by have e := @List.range'_append_1 0 m (ops.size - m); rw [Nat.zero_add] at e; rw [List.range_eq_range', e]; congr 1; omega, List.countP_append]
        have : (List.range' m (ops.size - m)).countP (fun i => !(fun i => listed.getD i false) i) = ops.size - m := by
          rw [List.countP_eq_length.2 (fun i hi => by
            have := List.mem_range'_1.1 hi
            simp [htl i this.1])]
          simp
        omega
      · refine ⟨fun hr => ?_, fun i hi => ?_⟩
        · exfalso
          refine hfull fun i => ?_
          induction i using Nat.strongRecOn with
          | ind i ih' =>
            intro him
            cases hl : listed.getD i false with
            | true => rfl
            | false =>
              have hilt : i < ops.size := by omega
              have ho : ops[i]? = some ops[i] := Array.getElem?_eq_getElem hilt
              have hm : i ∈ Region.ready .any ops listed := mem_ready.2 ⟨by
                simp [Array.getD_eq_getD_getElem?, Array.getElem?_eq_getElem (show i < listed.size by omega)] at hl ⊢; exact hl, ops[i], ho, fun e he hb => by
                have hd := hk.down ho e he hb
                exact ih' e.on hd (by omega)⟩
              rw [hr] at hm; cases hm
        · obtain ⟨h0, o, ho, hall⟩ := mem_ready.1 hi
          have hlt : i < listed.size := by rw [hsz]; exact (Array.getElem?_eq_some_iff.1 ho).1
          have h0' : listed.getD i false = false := by
            simp [Array.getD_eq_getD_getElem?, Array.getElem?_eq_getElem hlt] at h0 ⊢; exact h0
          have him : i < m := by
            by_cases e : i < m
            · exact e
            · exfalso
              refine hfull fun x hx => ?_
              exact ancs_listed hk hcl i o ho hall x (tailOk chk3 (by omega) (by omega) (by omega))
          refine wpOp_mono (fun a' w' hh => ?_) (held_step hk st stF ho (stepAt ho him) h h0' hall)
          obtain ⟨vs', g', hh⟩ := hh
          obtain ⟨hcl', hfun⟩ := closed_set ho hcl hlt hall
          refine ih _ vs' g' a' w' (by simp [hsz]) ?_ hcl' (fun x hx => ?_) (by rw [hfun]; exact hh)
          · rw [hfun]
            have := cntF_step (n := ops.size) (i := i) (L := fun j => listed.getD j false) (by omega) h0'
            omega
          · have hx2 : (listed.setIfInBounds i true).getD x false = (x == i || listed.getD x false) := congrFun hfun x
            show (listed.setIfInBounds i true).getD x false = false
            rw [hx2, htl x hx]
            simp; omega
  refine key ops.size (Array.replicate ops.size false) (fun _ => undef) g0 a0 _ (by simp) ?_ (fun j o ho hl => ?_) (fun i _ => ?_) ⟨start, fun i _ h => ?_, fun i _ => startF i, fun i h => ?_, rfl, rfl, fun t i o _ _ h => ?_, fun _ _ => rfl⟩
  · exact Nat.le_trans List.countP_le_length (by simp)
  all_goals
    have hz : ∀ i, (Array.replicate ops.size false).getD i false = false := fun i => by
      by_cases h : i < ops.size <;> simp [Array.getD_eq_getD_getElem?, h]
  · simp only [hz] at hl; cases hl
  · exact hz i
  · simp only [hz] at h; cases h
  · simp only [hz] at h; cases h
  · simp only [hz] at h; cases h
end
/-! ### In the direct style: old memory stays -/
section
variable {P : Program} {ops : Array Oper} {Q : Exit → Act → World → Prop}
/-- A fact that a call which makes memory leaves. -/
def DStab (R : Value → World → Prop) : Prop := ∀ v w w', R v w → Below w.heap.size w w' → R v w'
def DStabL : List (Value → World → Prop) → Prop
  | [] => True
  | R :: r => DStab R ∧ DStabL r
theorem dstab_eq {x : Value} : DStab (fun v _ => v = x) := fun _ _ _ h _ => h
theorem dstabL_at : ∀ {l : List (Value → World → Prop)}, DStabL l → ∀ i, DStab (l.getD i (fun _ _ => True))
  | [], _, i => fun _ _ _ _ _ => by simp
  | R :: r, h, 0 => h.1
  | R :: r, h, i + 1 => by rw [List.getD_cons_succ]; exact dstabL_at h.2 i
theorem dir_any {a0 : Act} {W : World} (m : Nat) (pre : List (List (Nat × Nat))) (all : List (Nat × Nat)) (Rs : List (Value → World → Prop)) (chk : rgChk ops pre = true) (chk2 : allChkM ops m all = true) (chk3 : tailChk ops m = true) (hmn : m ≤ ops.size) (hst : DStabL Rs)
    (steps : StepsL P ops Q a0 pre (fun (_ : Unit) w => Below W.heap.size W w) (fun i v _ w => Rs.getD i (fun _ _ => True) v w) (fun _ _ w _ w' => Below w.heap.size w w') (fun _ _ => True) (ops.toList.take m) 0)
    (fin : ∀ vs w, Below W.heap.size W w → (∀ i, i < m → Rs.getD i (fun _ _ => True) (vs i) w) → wpOps P ops (NoPanic Q) (List.range' m (ops.size - m)) (fill a0 vs all) w) :
    wpAny P .any ops (NoPanic Q) ops.size (Array.replicate ops.size false) a0 W.drew :=
  tail_plan (Γ := Unit) (g0 := ()) m pre all chk chk2 chk3 hmn (fun _ w => Below W.heap.size W w) (fun i v _ w => Rs.getD i (fun _ _ => True) v w) (fun _ _ w _ w' => Below w.heap.size w w') (fun _ _ => True)
    (fun i j v g w g' w' _ _ h hb => dstabL_at hst i v w w' h hb) (fun _ _ _ _ _ _ _ h _ => h) (below_drewN' (Below.refl _ _) 1) (fun _ => trivial) steps (fun vs g w h hr => fin vs w h hr)
/-- A region of whatever order, in a round. -/
theorem dir_round {id l n : Nat} {a0 : Act} {W : World} (hm : P.follows .mixedOrders = true) (hd : noDefer ops = true) (hQ : ∀ a w, ¬ Q .outgrown a w) (m : Nat) (pre : List (List (Nat × Nat))) (all : List (Nat × Nat)) (Rs : List (Value → World → Prop)) (chk : rgChk ops pre = true) (chk2 : allChkM ops m all = true) (chk3 : tailChk ops m = true) (hmn : m ≤ ops.size) (hst : DStabL Rs)
    (steps : StepsL P ops Q a0 pre (fun (_ : Unit) w => Below W.heap.size W w) (fun i v _ w => Rs.getD i (fun _ _ => True) v w) (fun _ _ w _ w' => Below w.heap.size w w') (fun _ _ => True) (ops.toList.take m) 0)
    (fin : ∀ vs w, Below W.heap.size W w → (∀ i, i < m → Rs.getD i (fun _ _ => True) (vs i) w) → wpOps P ops (NoPanic Q) (List.range' m (ops.size - m)) (fill a0 vs all) w) :
    (Code.region id ops true).wpIn (Fence.wide.inRound l) n P Q a0 W := region_round hm hd hQ (dir_any m pre all Rs chk chk2 chk3 hmn hst steps fin)
/-- A region of whatever order. -/
theorem dir_plain {id : Nat} {a0 : Act} {W : World} (hm : P.follows .mixedOrders = true) (m : Nat) (pre : List (List (Nat × Nat))) (all : List (Nat × Nat)) (Rs : List (Value → World → Prop)) (chk : rgChk ops pre = true) (chk2 : allChkM ops m all = true) (chk3 : tailChk ops m = true) (hmn : m ≤ ops.size) (hst : DStabL Rs)
    (steps : StepsL P ops Q a0 pre (fun (_ : Unit) w => Below W.heap.size W w) (fun i v _ w => Rs.getD i (fun _ _ => True) v w) (fun _ _ w _ w' => Below w.heap.size w w') (fun _ _ => True) (ops.toList.take m) 0)
    (fin : ∀ vs w, Below W.heap.size W w → (∀ i, i < m → Rs.getD i (fun _ _ => True) (vs i) w) → wpOps P ops (NoPanic Q) (List.range' m (ops.size - m)) (fill a0 vs all) w) :
    (Code.region id ops true).wp P Q a0 W := wp_region_noPanic (wp_region_any hm (dir_any m pre all Rs chk chk2 chk3 hmn hst steps fin))
theorem wpOps_step {i : Nat} {rest : List Nat} {o : Oper} {a : Act} {w : World} (ho : ops[i]? = some o) (hg : o.guard = none) (h : o.wp P a w (wpOps P ops Q rest) Q) : wpOps P ops Q (i :: rest) a w := by
  rw [wpOps_cons]
  unfold wpOp
  rw [ho]
  simp only [Region.wanted, hg, if_true]
  exact .inl h
end
end Go.Proofs.YtokabljeekokmaaDoor
