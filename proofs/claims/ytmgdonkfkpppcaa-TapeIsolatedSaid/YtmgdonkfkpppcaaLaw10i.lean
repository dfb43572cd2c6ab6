/-
  Layer 10: law TapeIsolated.
-/
import Derived.Test.YtmgdonkfkpppcaaLaw10
import Derived.Test.YtmgdonkfkpppcaaEvA
import Derived.Test.YtmgdonkfkpppcaaRow
import Derived.Test.YtmgdonkfkpppcaaBox
namespace Go.Proofs.Ytmgdonkfkpppcaa
open Go.RowKit Go.Maps
set_option maxRecDepth 100000
set_option linter.unusedVariables false
set_option linter.unusedSimpArgs false

/-- Events whose kinds may be written. -/
def EvsW (w : World) (T : Nat → Prop) (A : Option Addr) (l : List Ev) : Prop := EvsR w T A l ∧ ∀ b o, A = some ⟨b, o, none⟩ → ∀ j, j < l.length → w.frozen? ⟨b, o + j * 3, none⟩ = false
theorem tapeEventsF_any (v : Value) (l : List Ev) (T : Nat → Prop) (w : World) (h : TapeO w T v l) (hl : l.length ≤ 1000000) : Calls Try.prog 12 #[v] w fun e w' => ∃ A c, e = .returned (.slice A l.length c) ∧ EvsW w' (fun b => w.heap.size ≤ b) A l ∧ Below w.heap.size w w' := (tapeEventsW_any v l T w h hl).mono fun e w' h => by
  obtain ⟨A, c, h1, _, h3, h4, h5⟩ := h
  exact ⟨A, c, h1, ⟨h3, fun b o e j _ => h5 b o e _⟩, h4⟩
/-- Kinds raised. -/
def upE (e : Ev) : Ev := ⟨IntKind.i64.wrap (e.k + 1), e.a, e.b⟩
def bumpE (k : Nat) (l : List Ev) : List Ev := (l.take k).map upE ++ l.drop k
theorem bumpE_len (k : Nat) (l : List Ev) : (bumpE k l).length = l.length := by unfold bumpE; simp; omega
theorem bumpE_at (k : Nat) (l : List Ev) (j : Nat) : (bumpE k l)[j]? = if j < k then (l[j]?).map upE else l[j]? := by
  unfold bumpE
  by_cases h : j < k
  · rw [if_pos h]
    by_cases h2 : j < l.length
    · rw [List.getElem?_append_left (by simp; omega), List.getElem?_map, List.getElem?_take, if_pos h]
    · rw [List.getElem?_append_right (by simp; omega), List.getElem?_drop, List.getElem?_eq_none (by simp; omega), List.getElem?_eq_none (by omega)]
      rfl
  · rw [if_neg h]
    by_cases h2 : k ≤ l.length
    · rw [List.getElem?_append_right (by simp; omega), List.getElem?_drop]
      congr 1
      simp; omega
    · rw [List.getElem?_append_right (by simp; omega), List.getElem?_drop, List.getElem?_eq_none (by simp; omega), List.getElem?_eq_none (by omega)]
theorem upE_ne {e : Ev} (h : (Lit.int .i64 e.k).wf = true) : upE e ≠ e := fun h1 => by
  have h2 := congrArg Ev.k h1
  have := bounds_i64 h
  unfold upE at h2
  simp only [wrap_s] at h2
  omega
theorem first_bump {l : List Ev} (hw : WfE l) : firstD (bumpE l.length l) l ≤ 0 := by
  cases l with
  | nil => decide
  | cons e l =>
    have h1 : bumpE (e :: l).length (e :: l) = upE e :: l.map upE := by unfold bumpE; simp
    rw [h1]
    have := firstD_at (l := upE e :: l.map upE) (m := e :: l) (k := 0) rfl (by simp) (by simp) (upE_ne (hw e (by simp)))
    omega
theorem EvsW.step {w : World} {T : Nat → Prop} {b o : Nat} {l : List Ev} {k : Nat} (h : EvsW w T (some ⟨b, o, none⟩) (bumpE k l)) (hk : k < l.length) :
    EvsW (w.setCell ⟨b, o + k * 3, none⟩ (.int .i64 (upE l[k]).k)) T (some ⟨b, o, none⟩) (bumpE (k + 1) l) := by
  obtain ⟨h1, h2⟩ := h
  refine ⟨fun h0 => ?_, fun b' o' e j hj => ?_⟩
  · obtain ⟨b', o', e, hT, hc⟩ := h1 (by rw [bumpE_len]; omega)
    injection e with e
    injection e with e1 e2
    subst e1 e2
    refine ⟨b, o, rfl, hT, fun j x hx => ?_⟩
    rw [bumpE_at] at hx
    by_cases hjk : j = k
    · subst hjk
      rw [if_pos (by omega), List.getElem?_eq_getElem hk] at hx
      simp at hx
      subst hx
      obtain ⟨c1, c2, c3⟩ := hc j l[j] (by rw [bumpE_at, if_neg (by omega)]; exact List.getElem?_eq_getElem hk)
      refine ⟨?_, ?_, ?_⟩
      · exact World.cell?_setCell_same _ _ _ c1
      · exact (World.cell?_setCell_other _ _ _ _ (fun e => by injection e; omega)).trans c2
      · exact (World.cell?_setCell_other _ _ _ _ (fun e => by injection e; omega)).trans c3
    · obtain ⟨c1, c2, c3⟩ := hc j x (by rw [bumpE_at]; by_cases hlt : j < k; (rw [if_pos hlt]; rwa [if_pos (by omega)] at hx); (rw [if_neg hlt]; rwa [if_neg (by omega)] at hx))
      refine ⟨?_, ?_, ?_⟩
      · exact (World.cell?_setCell_other _ _ _ _ (fun e => by injection e; omega)).trans c1
      · exact (World.cell?_setCell_other _ _ _ _ (fun e => by injection e; omega)).trans c2
      · exact (World.cell?_setCell_other _ _ _ _ (fun e => by injection e; omega)).trans c3
  · rw [bumpE_len] at hj
    exact (World.frozen?_setCell _ _ _ _).trans (h2 b' o' e j (by rw [bumpE_len]; exact hj))
/-- Where the plan stands: how many appends are done, and the blocks that they may write. -/
abbrev Gi := Nat × List Nat
structure Ii (W : World) (g : Gi) (w : World) : Prop where
  below : Below W.heap.size W w
  own : ∀ b ∈ g.2, W.heap.size ≤ b
  lt : ∀ b ∈ g.2, b < w.heap.size
structure Gs (j : Nat) (g : Gi) (w : World) (g' : Gi) (w' : World) : Prop where
  ph : if j = 6 then g.1 = 0 ∧ g'.1 = 1 else if j = 9 then g.1 = 1 ∧ g'.1 = 2 else g'.1 = g.1
  mono : ∀ b ∈ g.2, b ∈ g'.2
  new : ∀ b ∈ g'.2, b ∈ g.2 ∨ w.heap.size ≤ b
  size : w.heap.size ≤ w'.heap.size
  frame : ∀ b, b < w.heap.size → ((j = 6 ∨ j = 9) → b ∉ g.2) → w'.heap[b]? = w.heap[b]?
def StI (R : Value → Gi → World → Prop) (i : Nat) : Prop := ∀ j v g w g' w', i ≠ j → R v g w → Gs j g w g' w' → R v g' w'
theorem stI_eq {x : Value} {i : Nat} : StI (fun v _ _ => v = x) i := fun _ _ _ _ _ _ _ h _ => h
theorem Gs.call {j : Nat} {g : Gi} {w w' : World} (h6 : j ≠ 6) (h9 : j ≠ 9) (hb : Below w.heap.size w w') : Gs j g w g w' :=
  ⟨by rw [if_neg h6, if_neg h9], fun _ h => h, fun _ h => .inl h, hb.size, fun b hb' _ => hb.block b hb'⟩
theorem Ii.call {W : World} {g : Gi} {w w' : World} (h : Ii W g w) (hb : Below w.heap.size w w') : Ii W g w' := ⟨h.below.trans (hb.mono h.below.size), h.own, fun b hb' => Nat.lt_of_lt_of_le (h.lt b hb') hb.size⟩
/-- A list of events that the appends leave alone. -/
def FreeR (n : Nat) (l : List Ev) (v : Value) (g : Gi) (w : World) : Prop := ∃ A c, v = .slice A n c ∧ n = l.length ∧ EvsR w (fun b => b ∉ g.2) A l ∧ (A = none → c = 0)
theorem stI_free {n : Nat} {l : List Ev} {i : Nat} : StI (FreeR n l) i := fun j v g w g' w' _ h hs => by
  obtain ⟨A, c, e, hn, hev, hc⟩ := h
  refine ⟨A, c, e, hn, ?_, hc⟩
  have h2 := EvsR.keep (w' := w') hev.now (fun b hb hlt => hs.frame b hlt (fun _ => hb.1))
  exact h2.imp fun b hb hm => by
    rcases hs.new b hm with h | h
    · exact hb.1 h
    · omega
def R4 (W : World) (v : Value) (g : Gi) (w : World) : Prop := ∃ b, v = .slice (some ⟨b, 0, none⟩) 0 0 ∧ (g.1 = 0 → b ∈ g.2 ∧ w.ownsRow W.heap.size 36 3 v 0 [])
def R6 (W : World) (l : List Ev) (v : Value) (g : Gi) (w : World) : Prop := 1 ≤ g.1 ∧ (g.1 = 1 → w.ownsRow W.heap.size 36 3 v l.length (l.flatMap evC) ∧ ∀ b, v.ownBlock = some b → b ∈ g.2)
def R9 (l : List Ev) (v : Value) (g : Gi) (w : World) : Prop := g.1 = 2 ∧ ∃ A c, v = .slice A l.length c ∧ EvsR w (fun _ => True) A l
theorem stI_4 {W : World} : StI (R4 W) 4 := fun j v g w g' w' hij h hs => by
  obtain ⟨b, rfl, h⟩ := h
  refine ⟨b, rfl, fun h0 => ?_⟩
  have hp := hs.ph
  by_cases h6 : j = 6
  · rw [if_pos h6] at hp; omega
  · by_cases h9 : j = 9
    · rw [if_neg h6, if_pos h9] at hp; omega
    · rw [if_neg h6, if_neg h9] at hp
      obtain ⟨h1, h2⟩ := h (by omega)
      exact ⟨hs.mono b h1, row_keep h2 fun k hk => hs.frame k (h2.lt k hk).2 (fun h => by omega)⟩
theorem stI_6 {W : World} {l : List Ev} : StI (R6 W l) 6 := fun j v g w g' w' hij h hs => by
  obtain ⟨h0, h⟩ := h
  have hp := hs.ph
  rw [if_neg (fun e => hij e.symm)] at hp
  by_cases h9 : j = 9
  · rw [if_pos h9] at hp
    exact ⟨by omega, fun h => by omega⟩
  · rw [if_neg h9] at hp
    refine ⟨by omega, fun h1 => ?_⟩
    obtain ⟨h2, h3⟩ := h (by omega)
    exact ⟨row_keep h2 fun k hk => hs.frame k (h2.lt k hk).2 (fun h => by omega), fun b hb => hs.mono b (h3 b hb)⟩
theorem stI_9 {l : List Ev} : StI (R9 l) 9 := fun j v g w g' w' hij h hs => by
  obtain ⟨h0, A, c, e, hev⟩ := h
  have hp := hs.ph
  rw [if_neg (fun e : j = 9 => hij e.symm)] at hp
  by_cases h6 : j = 6
  · rw [if_pos h6] at hp; omega
  · rw [if_neg h6] at hp
    exact ⟨by omega, A, c, e, hev.keep fun b _ hlt => hs.frame b hlt (fun h => by omega)⟩
def FI_ (i : Nat) (g : Gi) : Prop := (i = 6 → g.1 = 0) ∧ (i = 9 → g.1 ≤ 1)
theorem fI_st (i j : Nat) (g : Gi) (w : World) (g' : Gi) (w' : World) (hij : i ≠ j) (h : FI_ i g) (hs : Gs j g w g' w') : FI_ i g' := by
  have hp := hs.ph
  obtain ⟨k1, k2⟩ := h
  by_cases h6 : j = 6
  · rw [if_pos h6] at hp; exact ⟨fun e => by omega, fun e => by omega⟩
  · rw [if_neg h6] at hp
    by_cases h9 : j = 9
    · rw [if_pos h9] at hp; exact ⟨fun e => by have := k1 e; omega, fun e => by omega⟩
    · rw [if_neg h9] at hp; exact ⟨fun e => by have := k1 e; omega, fun e => by have := k2 e; omega⟩
def StIL : List (Value → Gi → World → Prop) → Nat → Prop
  | [], _ => True
  | R :: r, i => StI R i ∧ StIL r (i + 1)
theorem stIL_at : ∀ {l : List (Value → Gi → World → Prop)} {k : Nat}, StIL l k → ∀ i, StI (l.getD i (fun _ _ _ => True)) (k + i)
  | [], k, _, i => by simp [StI]
  | R :: l, k, h, 0 => h.1
  | R :: l, k, h, i + 1 => by
    have := stIL_at h.2 i
    rw [Nat.add_assoc, Nat.add_comm 1 i] at this
    simpa using this
-- WALK (written by law10i.py)
theorem EvsR.nil0 {w : World} {T : Nat → Prop} {l : List Ev} (h : EvsR w T none l) : l.length = 0 := by rw [nil_evs h]; rfl
theorem Ii.new {W : World} {g : Gi} {w : World} (h : Ii W g w) (o : Obj) : Ii W (g.1, g.2 ++ [w.heap.size]) (w.alloc o) := by
  refine ⟨h.below.alloc h.below.size _, fun b hb => ?_, fun b hb => ?_⟩
  · rcases List.mem_append.1 hb with hb | hb
    · exact h.own b hb
    · rw [List.mem_singleton.1 hb]; exact h.below.size
  · rcases List.mem_append.1 hb with hb | hb
    · have := h.lt b hb; simp; omega
    · rw [List.mem_singleton.1 hb]; simp
theorem Gs.alloc {j : Nat} {g : Gi} {w : World} {o : Obj} (h6 : j ≠ 6) (h9 : j ≠ 9) : Gs j g w (g.1, g.2 ++ [w.heap.size]) (w.alloc o) :=
  ⟨by rw [if_neg h6, if_neg h9], fun b h => by simp [h], fun b h => by rcases List.mem_append.1 h with h | h; exact .inl h; (right; rw [List.mem_singleton.1 h]; exact Nat.le_refl _), by simp, fun b hb _ => Below.heap_alloc w _ b hb⟩
theorem Ii.app {W : World} {g : Gi} {w w' : World} {v v' : Value} (p : Nat) (h : Ii W g w) (hg : w.grownBy w' v.ownBlock) (hv : ∀ b, v.ownBlock = some b → b ∈ g.2) (hl : ∀ b, v'.ownBlock = some b → W.heap.size ≤ b ∧ b < w'.heap.size) : Ii W (p, g.2 ++ v'.ownBlock.toList) w' := by
  refine ⟨h.below.grown hg h.below.size (fun k e => h.own k (hv k e)), fun b hb => ?_, fun b hb => ?_⟩
  · rcases List.mem_append.1 hb with hb | hb
    · exact h.own b hb
    · exact (hl b (by simpa using hb)).1
  · rcases List.mem_append.1 hb with hb | hb
    · exact Nat.lt_of_lt_of_le (h.lt b hb) hg.size
    · exact (hl b (by simpa using hb)).2
theorem Gs.app {j : Nat} {g : Gi} {w w' : World} {v v' : Value} {p : Nat} (hp : if j = 6 then g.1 = 0 ∧ p = 1 else if j = 9 then g.1 = 1 ∧ p = 2 else p = g.1) (hj : j = 6 ∨ j = 9) (hg : w.grownBy w' v.ownBlock) (hv : ∀ b, v.ownBlock = some b → b ∈ g.2) (hloc : v'.ownBlock = v.ownBlock ∨ v'.ownBlock = some w.heap.size) :
    Gs j g w (p, g.2 ++ v'.ownBlock.toList) w' := by
  refine ⟨hp, fun b h => by simp [h], fun b h => ?_, hg.size, fun b hb hn => hg.block b hb fun e => hn hj (hv b e.symm)⟩
  rcases List.mem_append.1 h with h | h
  · exact .inl h
  · have h : v'.ownBlock = some b := by simpa using h
    rcases hloc with k | k
    · exact .inl (hv b (k.symm.trans h))
    · rw [k] at h; injection h with h; right; omega
theorem lit1_evs (w : World) (e : Ev) (t : TypeId) : EvsR (w.alloc (.cells #[.int .i64 e.k, .int .i64 e.a, .int .i64 e.b] t)) (fun g => w.heap.size ≤ g) (some ⟨w.heap.size, 0, none⟩) [e] := fun _ => by
  refine ⟨w.heap.size, 0, rfl, Nat.le_refl _, fun j x hx => ?_⟩
  match j, hx with
  | 0, hx => simp at hx; subst hx; simp [go_sem]
theorem ref10Same_n {n : Nat} {l : List Ev} (hn : n = l.length) (A B : Option Addr) (c d : Nat) (l2 m : List Ev) (T U : Nat → Prop) (w : World) (r : Bool) (ha : EvsR w T A l) (hb : EvsR w U B m) (hl : l.length ≤ 1000000) (hm : m.length ≤ 1000000) (hr : decide (l = m) = r) :
    Calls Try.prog 11 #[.slice A n c, .slice B m.length d] w fun e w' => e = .returned (.bool r) ∧ ∃ n, w' = w.drewN n := by subst hn; exact ref10Same_r A B c d l m T U w r ha hb hl hm hr
def IsoRel (w0 w1 : World) (G : Option Addr) (l : List Ev) (tb : Nat) (i : Value) (wr : World) : Prop := ∃ j : Nat, i = .int .i64 j ∧ j ≤ l.length ∧ EvsW wr (fun b => w1.heap.size ≤ b) G (bumpE j l) ∧ TapeW wr (fun g => w0.heap.size ≤ g ∧ g < w1.heap.size) tb l ∧ Below w0.heap.size w0 wr
theorem bumpE_zero (l : List Ev) : bumpE 0 l = l := by unfold bumpE; simp
theorem EvsW.cellAt {w : World} {T : Nat → Prop} {A : Option Addr} {l : List Ev} {j : Nat} (h : EvsW w T A (bumpE j l)) (hj : j < l.length) : ∃ b o, A = some ⟨b, o, none⟩ ∧ T b ∧ w.cell? ⟨b, o + j * 3, none⟩ = some (.int .i64 (l[j]'hj).k) := by
  obtain ⟨b, o, e, hT, hc⟩ := h.1 (by rw [bumpE_len]; omega)
  exact ⟨b, o, e, hT, (hc j _ (by rw [bumpE_at, if_neg (by omega)]; exact List.getElem?_eq_getElem hj)).1⟩
theorem own_L1 {w : World} {base : Nat} {v : Value} {l L1 : List Ev} {e : Ev} (hq : L1 = l ++ [e]) (h : w.ownsRow base 36 3 v (l.length + 1) (l.flatMap evC ++ [e].flatMap evC)) : w.ownsRow base 36 3 v L1.length (L1.flatMap evC) := by
  subst hq
  rw [List.length_append, List.flatMap_append]; exact h
theorem ref10First_r2 {A B : Option Addr} {c d' : Nat} {l m : List Ev} {T U : Nat → Prop} {w : World} {r : Int} (hl0 : l.length = m.length) (ha : EvsR w T A l) (hb : EvsR w U B m) (hm : m.length ≤ 1000) (hr : firstD l m = r) :
    Calls Try.prog 18 #[.slice A m.length c, .slice B m.length d'] w fun e w' => e = .returned (.int .i64 r) ∧ ∃ n, w' = w.drewN n := by
  have := ref10First_r (c := c) (d := d') ha hb (by omega) (by omega) hr
  rwa [hl0] at this
def isoRs (W : World) (l L1 : List Ev) (n1 tb : Nat) (A G : Option Addr) (c gc : Nat) (k a b d : Int) : List (Value → Gi → World → Prop) := [
      (fun v _ _ => v = .bool true),
      (fun v _ _ => v = .bool true),
      (fun v _ _ => v = .pointer (some ⟨tb, 0, none⟩)),
      (FreeR n1 L1),
      (R4 W),
      (fun v _ _ => v = .slice A l.length c),
      (R6 W l),
      (fun v _ _ => v = .agg #[.int .i64 k, .int .i64 a, .int .i64 b]),
      (FreeR 1 [⟨k, a, b⟩]),
      (R9 L1),
      (fun v _ _ => v = .bool true),
      (fun v _ _ => v = .bool true),
      (fun v _ _ => v = .bool true),
      (fun v _ _ => v = .slice G l.length gc),
      (fun v _ _ => v = .slice A l.length c),
      (fun v _ _ => v = .int .i64 d),
      (fun v _ _ => v = .bool true),
      (fun v _ _ => v = .bool true),
      (fun v _ _ => v = .bool true)]
theorem isoRs_st (W : World) (l L1 : List Ev) (n1 tb : Nat) (A G : Option Addr) (c gc : Nat) (k a b d : Int) : StIL (isoRs W l L1 n1 tb A G c gc k a b d) 0 := ⟨stI_eq, stI_eq, stI_eq, stI_free, stI_4, stI_eq, stI_6, stI_eq, stI_free, stI_9, stI_eq, stI_eq, stI_eq, stI_eq, stI_eq, stI_eq, stI_eq, stI_eq, stI_eq, trivial⟩
set_option maxHeartbeats 4000000 in
theorem law_tapeIsolated (A : Option Addr) (c : Nat) (l : List Ev) (k a b : Int) (w : World) (ha : EvsR w (fun _ => True) A l) (hA : A = none → c = 0) (hw : WfE l) (hk : (Lit.int .i64 k).wf = true) (hml : l.length ≤ maxLen) :
    Calls Try.prog 5 #[.slice A l.length c, .agg #[.int .i64 k, .int .i64 a, .int .i64 b]] w fun e w' => e = .returned (.bool true) ∧ Below w.heap.size w w' := by
  unfold maxLen at hml
  have hb0 : Below w.heap.size w (w.alloc (.cells #[.int .i64 k, .int .i64 a, .int .i64 b] 36)) := (Below.refl _ _).alloc (Nat.le_refl _) _
  by_cases hgt : 1000 < l.length
  · go_enter Try.func5, Try.ntmps5
    go_wp2_with (fail)
    refine (alive10_any _).mono ?_
    rintro e w1 ⟨rfl, hb⟩
    go_wp2
    go_ret
    exact ⟨rfl, hb0.trans (hb.mono hb0.size)⟩
  · obtain ⟨w0, hw0⟩ : ∃ w0, w0 = w.alloc (.cells #[.int .i64 k, .int .i64 a, .int .i64 b] 36) := ⟨_, rfl⟩
    obtain ⟨eb, heb⟩ : ∃ eb, eb = w.heap.size := ⟨_, rfl⟩
    rw [← hw0] at hb0
    have c0 : w0.cell? ⟨eb, 0, none⟩ = some (.int .i64 k) := by rw [hw0, heb]; simp [go_sem]
    have c1 : w0.cell? ⟨eb, 1, none⟩ = some (.int .i64 a) := by rw [hw0, heb]; simp [go_sem]
    have c2 : w0.cell? ⟨eb, 2, none⟩ = some (.int .i64 b) := by rw [hw0, heb]; simp [go_sem]
    have ha1 := ha.next hb0
    have HW0 := Lib.hid hw0
    have HE := Lib.hid heb
    clear hw0 heb
    go_enter Try.func5, Try.ntmps5
    go_wp2_with (fail)
    rw [← HW0.out, ← HE.out]
    refine (record_any A c l _ w0 ha1 (by omega) hw).mono ?_
    rintro e w1 ⟨tb, rfl, ht, hb1⟩
    go_wp2_with (fail)
    refine (tapeEventsF_any _ l _ w1 ht.o (by omega)).mono ?_
    rintro e w2 ⟨G, gc, rfl, hgot, hb2⟩
    go_wp2
    go_loopw [20] (fun i wr => IsoRel w0 w1 G l tb i wr) (fun i _ => l.length - (intOf i).toNat)
    case atStart => exact ⟨0, rfl, Nat.zero_le _, by rw [bumpE_zero]; exact hgot, ht.now.next hb2, hb1.trans (hb2.mono hb1.size)⟩
    case round =>
      have hs1 := hb1.size
      clear hgot ht hb1 hb2
      obtain ⟨j, rfl, hj, hgot, ht, hb⟩ := hrel
      by_cases hgo : j < l.length
      · obtain ⟨gb, go, rfl, hgb, hcell⟩ := hgot.cellAt hgo
        have hfz := hgot.2 gb go rfl j (by rw [bumpE_len]; exact hgo)
        have HW := Lib.hid (hgot.step hgo)
        have HT := Lib.hid (ht.keep (w' := wr.setCell ⟨gb, go + j * 3, none⟩ (.int .i64 (upE l[j]).k)) fun x hx _ => Below.heap_setCell _ _ _ _ (by show x ≠ gb; omega))
        have HB := Lib.hid (hb.setCell (p := ⟨gb, go + j * 3, none⟩) (Nat.le_trans hs1 hgb) (.int .i64 (upE l[j]).k))
        have HK := Lib.hid (show (upE l[j]).k = IntKind.i64.wrap (l[j].k + 1) from rfl)
        clear hgot ht hb
        generalize (upE l[j]).k = u at *
        generalize (l[j]'hgo).k = kk at *
        have e1 : IntKind.i64.wrap (kk + 1) = u := HK.out.symm
        clear HK
        go_wp2
        go_roundw
        case rel => exact ⟨j + 1, by go_num, hgo, HW.out, HT.out, HB.out⟩
        case measure => simp [intOf]; omega
      · obtain rfl : j = l.length := by omega
        have d0 := (hb.cell (p := ⟨eb, 0, none⟩) (lt_of_cell c0)).trans c0
        have d1 := (hb.cell (p := ⟨eb, 1, none⟩) (lt_of_cell c1)).trans c1
        have d2 := (hb.cell (p := ⟨eb, 2, none⟩) (lt_of_cell c2)).trans c2
        go_wp2_with (fail)
        refine (tapeNote_any tb l _ k a b wr ht (by omega) hk).mono ?_
        rintro e w4 ⟨rfl, ht4, hm⟩
        have h4 := hm.below hb (fun g hg => hg.1) hb.size
        have g4 : EvsR w4 (fun _ => True) G (bumpE l.length l) := (hgot.1.keep fun x hx hlt => hm.block x hlt fun h => by omega).imp fun _ _ => trivial
        have HT := Lib.hid ht4
        have HG := Lib.hid g4
        have HA := Lib.hid (ha1.next h4)
        have HC := Lib.hid hA
        have C0 := Lib.hid ((h4.cell (p := ⟨eb, 0, none⟩) (lt_of_cell c0)).trans c0)
        have C1 := Lib.hid ((h4.cell (p := ⟨eb, 1, none⟩) (lt_of_cell c1)).trans c1)
        have C2 := Lib.hid ((h4.cell (p := ⟨eb, 2, none⟩) (lt_of_cell c2)).trans c2)
        obtain ⟨d, hd⟩ : ∃ d, firstD (bumpE l.length l) l = d := ⟨_, rfl⟩
        have HD := Lib.hid hd
        have HZ := Lib.hid (show decide (d ≤ 0) = true from decide_eq_true (hd ▸ first_bump hw))
        obtain ⟨L1, hL1⟩ : ∃ L1, L1 = l ++ [⟨k, a, b⟩] := ⟨_, rfl⟩
        rw [← hL1] at ht4
        have HT := Lib.hid ht4
        have HQ := Lib.hid hL1
        have HL := Lib.hid (show l.length ≤ 1000 by omega)
        have H1 := Lib.hid (show L1.length ≤ 1000000 by rw [hL1, List.length_append]; simp; omega)
        obtain ⟨n1, hn1⟩ : ∃ n1, n1 = L1.length := ⟨_, rfl⟩
        have HN := Lib.hid hn1.symm
        have HB := Lib.hid (hb0.trans (h4.mono hb0.size))
        have hgl := bumpE_len l.length l
        have HGL := Lib.hid hgl
        clear hgl hn1 hL1 hd g4 ht4 hm hb ht hgot d0 d1 d2 c0 c1 c2 h4 ha1 ha hb0 hA hk hgt hw
        go_upto_region 13 with (fail)
        refine region_plan (Γ := Gi) (g0 := (0, [])) (by kernel_rfl) ⟨[[], [(40, 0)], [(41, 1)], [(41, 1), (42, 2)], [(41, 1)], [(41, 1)], [(41, 1), (44, 4), (45, 5)], [(41, 1)], [(41, 1), (47, 7)], [(41, 1), (46, 6), (48, 8)], [(41, 1), (43, 3), (49, 9)], [(41, 1), (50, 10)], [(51, 11)], [(52, 12)], [(52, 12)], [(52, 12), (53, 13), (54, 14)], [(52, 12), (55, 15)], [(52, 12), (56, 16)], [(57, 17)]], [(40, 0), (41, 1), (42, 2), (43, 3), (44, 4), (45, 5), (46, 6), (47, 7), (48, 8), (49, 9), (50, 10), (51, 11), (52, 12), (53, 13), (54, 14), (55, 15), (56, 16), (57, 17), (4, 18)], Ii w4, fun i => (isoRs w4 l L1 n1 tb A G c gc k a b d).getD i (fun _ _ _ => True), Gs, FI_, by kernel_rfl, by kernel_rfl, fun i j v g w g' w' hij _ h hs => (by have := stIL_at (isoRs_st w4 l L1 n1 tb A G c gc k a b d) i; rw [Nat.zero_add] at this; exact this j v g w g' w' hij h hs), fI_st, ⟨below_drewN' (Below.refl _ _) 1, (fun b h => by cases h), (fun b h => by cases h)⟩, fun i => ⟨fun _ => rfl, fun _ => by decide⟩, ?steps, ?fin⟩
        case steps =>
          refine ⟨?_, ?_, ?_, ?_, ?_, ?_, ?_, ?_, ?_, ?_, ?_, ?_, ?_, ?_, ?_, ?_, ?_, ?_, ?_, trivial⟩
          · intro vs g w2 hI hF hR K hK
            simp only [isoRs, Facts, fill, Act.put, z1, z2, z3, z4, z5, Nat.reduceAdd] at hF hR hK ⊢
            go_simp
            refine (alive10_any _).mono ?_
            rintro e w3 ⟨rfl, hb⟩
            exact hK _ _ _ (hI.call hb) (Gs.call (by decide) (by decide) hb) rfl
          · intro vs g w2 hI hF hR K hK
            simp only [isoRs, Facts, fill, Act.put, z1, z2, z3, z4, z5, Nat.reduceAdd] at hF hR hK ⊢
            obtain ⟨r0, -⟩ := hR
            generalize vs 0 = x0 at *
            subst r0
            go_simp
            exact hK _ _ _ hI (Gs.call (by decide) (by decide) (Below.refl _ _)) rfl
          · intro vs g w2 hI hF hR K hK
            simp only [isoRs, Facts, fill, Act.put, z1, z2, z3, z4, z5, Nat.reduceAdd] at hF hR hK ⊢
            obtain ⟨r1, -⟩ := hR
            generalize vs 1 = x1 at *
            subst r1
            go_simp
            exact hK _ _ _ hI (Gs.call (by decide) (by decide) (Below.refl _ _)) rfl
          · intro vs g w2 hI hF hR K hK
            simp only [isoRs, Facts, fill, Act.put, z1, z2, z3, z4, z5, Nat.reduceAdd] at hF hR hK ⊢
            obtain ⟨r1, r2, -⟩ := hR
            generalize vs 1 = x1, vs 2 = x2 at *
            subst r1 r2
            go_simp
            refine (tapeEvents_any _ L1 _ _ (HT.out.next hI.below).o H1.out).mono ?_
            rintro e w3 ⟨A3, c3, rfl, hlc, hev, hb⟩
            exact hK _ _ _ (hI.call hb) (Gs.call (by decide) (by decide) hb) ⟨A3, c3, by rw [HN.out], HN.out.symm, hev.imp (fun b hb2 hm => by have := hI.below.size; have := hI.lt b hm; omega), fun e => by subst e; have := hev.nil0; have h9 := congrArg List.length HQ.out; rw [List.length_append] at h9; simp at h9; omega⟩
          · intro vs g w2 hI hF hR K hK
            simp only [isoRs, Facts, fill, Act.put, z1, z2, z3, z4, z5, Nat.reduceAdd] at hF hR hK ⊢
            obtain ⟨r1, -⟩ := hR
            generalize vs 1 = x1 at *
            subst r1
            go_simp
            exact hK _ (g.1, g.2 ++ [w2.heap.size]) _ (hI.new _) (Gs.alloc (by decide) (by decide)) ⟨_, rfl, fun h0 => ⟨by simp, World.ownsRow_made w2 #[] 0 hI.below.size (by decide) rfl⟩⟩
          · intro vs g w2 hI hF hR K hK
            simp only [isoRs, Facts, fill, Act.put, z1, z2, z3, z4, z5, Nat.reduceAdd] at hF hR hK ⊢
            obtain ⟨r1, -⟩ := hR
            generalize vs 1 = x1 at *
            subst r1
            go_simp
            exact hK _ _ _ hI (Gs.call (by decide) (by decide) (Below.refl _ _)) rfl
          · intro vs g w2 hI hF hR K hK
            simp only [isoRs, Facts, fill, Act.put, z1, z2, z3, z4, z5, Nat.reduceAdd] at hF hR hK ⊢
            obtain ⟨r1, r4, r5, -⟩ := hR
            generalize vs 1 = x1, vs 4 = x4, vs 5 = x5 at *
            subst r1 r5
            obtain ⟨b4, rfl, h4⟩ := r4
            obtain ⟨hm4, hrow4⟩ := h4 (hF.1 rfl)
            rw [if_pos (by rfl)]
            refine op_app_row elemEv _ _ rfl w4.heap.size _ 0 [] rfl hrow4 A c l.length l (fun _ => True) rfl rfl (HA.out.next hI.below).row HC.out (by have := HL.out; omega) hI.below.size ?_
            intro v' w3 hrow hgrow hloc
            rw [Nat.zero_add, List.nil_append] at hrow
            exact hK v' (1, g.2 ++ v'.ownBlock.toList) _ (hI.app 1 hgrow (fun b hb => by injection hb with hb; rw [← hb]; exact hm4) hrow.lt) (Gs.app (by rw [if_pos rfl]; exact ⟨hF.1 rfl, rfl⟩) (.inl rfl) hgrow (fun b hb => by injection hb with hb; rw [← hb]; exact hm4) hloc) ⟨Nat.le_refl _, fun _ => ⟨hrow, fun b hb => by simp [hb]⟩⟩
          · intro vs g w2 hI hF hR K hK
            simp only [isoRs, Facts, fill, Act.put, z1, z2, z3, z4, z5, Nat.reduceAdd] at hF hR hK ⊢
            obtain ⟨r1, -⟩ := hR
            generalize vs 1 = x1 at *
            subst r1
            have k0 := (hI.below.cell (p := ⟨eb, 0, none⟩) (lt_of_cell C0.out)).trans C0.out
            have k1 := (hI.below.cell (p := ⟨eb, 1, none⟩) (lt_of_cell C1.out)).trans C1.out
            have k2 := (hI.below.cell (p := ⟨eb, 2, none⟩) (lt_of_cell C2.out)).trans C2.out
            go_simp
            exact hK _ _ _ hI (Gs.call (by decide) (by decide) (Below.refl _ _)) rfl
          · intro vs g w2 hI hF hR K hK
            simp only [isoRs, Facts, fill, Act.put, z1, z2, z3, z4, z5, Nat.reduceAdd] at hF hR hK ⊢
            obtain ⟨r1, r7, -⟩ := hR
            generalize vs 1 = x1, vs 7 = x7 at *
            subst r1 r7
            have hb : Below w2.heap.size w2 (w2.alloc (.cells #[.int .i64 k, .int .i64 a, .int .i64 b] 36)) := (Below.refl _ _).alloc (Nat.le_refl _) _
            go_simp
            exact hK _ _ _ (hI.call hb) (Gs.call (by decide) (by decide) hb) ⟨_, _, rfl, rfl, (lit1_evs w2 ⟨k, a, b⟩ _).imp (fun x hx hm => by have := hI.lt x hm; omega), fun e => by cases e⟩
          · intro vs g w2 hI hF hR K hK
            simp only [isoRs, Facts, fill, Act.put, z1, z2, z3, z4, z5, Nat.reduceAdd] at hF hR hK ⊢
            obtain ⟨r1, r6, r8, -⟩ := hR
            generalize vs 1 = x1, vs 6 = x6, vs 8 = x8 at *
            subst r1
            obtain ⟨h60, h6⟩ := r6
            obtain ⟨hrow6, hin6⟩ := h6 (by have := hF.2 rfl; omega)
            obtain ⟨A8, c8, rfl, _, hev8, hn8⟩ := r8
            rw [if_pos (by rfl)]
            refine op_app_row elemEv _ _ rfl w4.heap.size _ l.length (l.flatMap evC) rfl hrow6 A8 c8 1 [⟨k, a, b⟩] _ rfl rfl hev8.row hn8 (by have := HL.out; omega) hI.below.size ?_
            intro v' w3 hrow hgrow hloc
            have hrow2 := own_L1 HQ.out hrow
            obtain ⟨A9, c9, e9, _, _, hev⟩ := own_evs hrow2
            exact hK v' (2, g.2 ++ v'.ownBlock.toList) _ (hI.app 2 hgrow hin6 hrow.lt) (Gs.app (by rw [if_neg (by decide), if_pos rfl]; exact ⟨by have := hF.2 rfl; omega, rfl⟩) (.inr rfl) hgrow hin6 hloc) ⟨rfl, A9, c9, e9, hev.imp fun _ _ => trivial⟩
          · intro vs g w2 hI hF hR K hK
            simp only [isoRs, Facts, fill, Act.put, z1, z2, z3, z4, z5, Nat.reduceAdd] at hF hR hK ⊢
            obtain ⟨r1, r3, r9, -⟩ := hR
            generalize vs 1 = x1, vs 3 = x3, vs 9 = x9 at *
            subst r1
            obtain ⟨A3, c3, rfl, hn3, hev3, -⟩ := r3
            obtain ⟨-, A9, c9, rfl, hev9⟩ := r9
            have HN3 := Lib.hid hn3
            clear hn3
            go_simp
            refine (ref10Same_n HN3.out A3 A9 c3 c9 L1 L1 _ _ _ true hev3 hev9 H1.out H1.out (by simp)).mono ?_
            rintro e w3 ⟨rfl, m, rfl⟩
            exact hK _ _ _ (hI.call (below_drewN' (Below.refl _ _) m)) (Gs.call (by decide) (by decide) (below_drewN' (Below.refl _ _) m)) rfl
          · intro vs g w2 hI hF hR K hK
            simp only [isoRs, Facts, fill, Act.put, z1, z2, z3, z4, z5, Nat.reduceAdd] at hF hR hK ⊢
            obtain ⟨r1, r10, -⟩ := hR
            generalize vs 1 = x1, vs 10 = x10 at *
            subst r1 r10
            go_simp
            exact hK _ _ _ hI (Gs.call (by decide) (by decide) (Below.refl _ _)) rfl
          · intro vs g w2 hI hF hR K hK
            simp only [isoRs, Facts, fill, Act.put, z1, z2, z3, z4, z5, Nat.reduceAdd] at hF hR hK ⊢
            obtain ⟨r11, -⟩ := hR
            generalize vs 11 = x11 at *
            subst r11
            go_simp
            exact hK _ _ _ hI (Gs.call (by decide) (by decide) (Below.refl _ _)) rfl
          · intro vs g w2 hI hF hR K hK
            simp only [isoRs, Facts, fill, Act.put, z1, z2, z3, z4, z5, Nat.reduceAdd] at hF hR hK ⊢
            obtain ⟨r12, -⟩ := hR
            generalize vs 12 = x12 at *
            subst r12
            go_simp
            exact hK _ _ _ hI (Gs.call (by decide) (by decide) (Below.refl _ _)) rfl
          · intro vs g w2 hI hF hR K hK
            simp only [isoRs, Facts, fill, Act.put, z1, z2, z3, z4, z5, Nat.reduceAdd] at hF hR hK ⊢
            obtain ⟨r12, -⟩ := hR
            generalize vs 12 = x12 at *
            subst r12
            go_simp
            exact hK _ _ _ hI (Gs.call (by decide) (by decide) (Below.refl _ _)) rfl
          · intro vs g w2 hI hF hR K hK
            simp only [isoRs, Facts, fill, Act.put, z1, z2, z3, z4, z5, Nat.reduceAdd] at hF hR hK ⊢
            obtain ⟨r12, r13, r14, -⟩ := hR
            generalize vs 12 = x12, vs 13 = x13, vs 14 = x14 at *
            subst r12 r13 r14
            have hg := HG.out.next hI.below
            go_simp
            refine (ref10First_r2 (r := d) HGL.out hg (HA.out.next hI.below) HL.out HD.out).mono ?_
            rintro e w3 ⟨rfl, m, rfl⟩
            exact hK _ _ _ (hI.call (below_drewN' (Below.refl _ _) m)) (Gs.call (by decide) (by decide) (below_drewN' (Below.refl _ _) m)) rfl
          · intro vs g w2 hI hF hR K hK
            simp only [isoRs, Facts, fill, Act.put, z1, z2, z3, z4, z5, Nat.reduceAdd] at hF hR hK ⊢
            obtain ⟨r12, r15, -⟩ := hR
            generalize vs 12 = x12, vs 15 = x15 at *
            subst r12 r15
            have hd := HZ.out
            go_simp
            exact hK _ _ _ hI (Gs.call (by decide) (by decide) (Below.refl _ _)) rfl
          · intro vs g w2 hI hF hR K hK
            simp only [isoRs, Facts, fill, Act.put, z1, z2, z3, z4, z5, Nat.reduceAdd] at hF hR hK ⊢
            obtain ⟨r12, r16, -⟩ := hR
            generalize vs 12 = x12, vs 16 = x16 at *
            subst r12 r16
            go_simp
            exact hK _ _ _ hI (Gs.call (by decide) (by decide) (Below.refl _ _)) rfl
          · intro vs g w2 hI hF hR K hK
            simp only [isoRs, Facts, fill, Act.put, z1, z2, z3, z4, z5, Nat.reduceAdd] at hF hR hK ⊢
            obtain ⟨r17, -⟩ := hR
            generalize vs 17 = x17 at *
            subst r17
            go_simp
            exact hK _ _ _ hI (Gs.call (by decide) (by decide) (Below.refl _ _)) rfl
        case fin =>
          intro vs g w5 hI hR
          have r18 := hR 18 (by decide)
          simp only [isoRs, fill, Act.put, z1, z2, z3, z4, z5] at r18 ⊢
          clear hR
          have hB := hI.below
          generalize vs 18 = x18 at *
          subst r18
          go_wp2
          go_ret
          exact ⟨rfl, HB.out.trans (hB.mono HB.out.size)⟩
end Go.Proofs.Ytmgdonkfkpppcaa
