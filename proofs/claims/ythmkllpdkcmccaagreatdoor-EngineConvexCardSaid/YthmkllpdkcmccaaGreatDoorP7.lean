/-
  Packed texts: MaskB, Lp, PolyA, PolyL, ScopeIn, PolyV, Wf, Tabs, Laid, PolyC, Ref07m, Ref07, DiscM, PtL, Copy, InsP.
-/
import Derived.Shelf.Abstract
import Derived.Shelf.RegionOpen
import Derived.WalkKit
import Derived.OwnWalkIn
import Derived.TacticsInMore
import Derived.LoopNIn
import Derived.LoopIn
import Derived.Scope
import Derived.ControlIn
import Derived.OpenShut
import Derived.Laws.Cover2
import Derived.Lib.LaidTab
import Derived.Test.YthmkllpdkcmccaaGreatDoorRows
import Derived.LaidMore
import Derived.Stop.Joined
import Derived.Stop.LaidErr
import Derived.Lib.AppendZeros
import Derived.Shelf.RegionOpenPlain
import Derived.Lib.Overlaps
import Derived.Lib.AppendZerosOnto
import Derived.Laws.IdiomCopy
import Derived.Laws.NewBlocks
import Derived.Laws.Externs
import Derived.OwnWalk
import Derived.Shelf.Spec.SlicesInsert
import Derived.Test.YthmkllpdkcmccaaGreatDoorP6
namespace Go.Proofs.YthmkllpdkcmccaaGreatDoor
open Go.RowKit
set_option maxRecDepth 100000
set_option linter.unusedVariables false
set_option linter.unusedSimpArgs false

theorem equal_b (a b : Int) (ha : U a) (hb : U b) (w : World) (hw : Wts w) : Calls Tryz.prog 47 #[.int .u64 a, .int .u64 b] w fun e w' => e = .returned (.int .u64 (mk (decide (a = b)))) ∧ Below w.heap.size w w' :=
  (equal_any a b ha hb w hw).mono fun e w' ⟨h1, n, h2⟩ => ⟨h1, h2 ▸ below_drewN' (Below.refl _ _) n⟩
theorem zero_b (a : Int) (ha : U a) (w : World) (hw : Wts w) : Calls Tryz.prog 44 #[.int .u64 a] w fun e w' => e = .returned (.int .u64 (mk (decide (a = 0)))) ∧ Below w.heap.size w w' :=
  (zero_any a ha w hw).mono fun e w' ⟨h1, n, h2⟩ => ⟨h1, h2 ▸ below_drewN' (Below.refl _ _) n⟩
theorem negative_b (a : Int) (ha : S a) (w : World) (hw : Wts w) : Calls Tryz.prog 50 #[.int .i64 a] w fun e w' => e = .returned (.int .u64 (mk (decide (a < 0)))) ∧ Below w.heap.size w w' :=
  (negative_any a ha w hw).mono fun e w' ⟨h1, n, h2⟩ => ⟨h1, h2 ▸ below_drewN' (Below.refl _ _) n⟩
theorem select_b (m a b : Int) (w : World) : Calls Tryz.prog 25 #[.int .u64 m, .int .u64 a, .int .u64 b] w fun e w' => e = .returned (.int .u64 (sel m a b)) ∧ Below w.heap.size w w' :=
  (select_any m a b w).mono fun e w' ⟨h1, h2⟩ => ⟨h1, h2 ▸ Below.refl _ _⟩
theorem bit_b (a : Int) (ha : U a) (w : World) : Calls Tryz.prog 42 #[.int .u64 a] w fun e w' => e = .returned (.int .u64 (a % 2)) ∧ Below w.heap.size w w' :=
  (bit_any a ha w).mono fun e w' ⟨h1, h2⟩ => ⟨h1, h2 ▸ Below.refl _ _⟩
theorem xor_mk (b : Bool) : bits .xor .u64 18446744073709551615 (mk b) = mk (!b) := by cases b <;> decide +kernel
theorem mk_and (a b : Bool) : bits .and .u64 (mk a) (mk b) = mk (a && b) := by cases a <;> cases b <;> decide +kernel
theorem mk_or (a b : Bool) : bits .or .u64 (mk a) (mk b) = mk (a || b) := by cases a <;> cases b <;> decide +kernel
/-- A sign as a word. -/
theorem wrap_sgn {x : Int} (h : x = -1 ∨ x = 0 ∨ x = 1) : U (IntKind.u64.wrap x) ∧ (IntKind.u64.wrap x = 0 ↔ x = 0) := by
  rcases h with rfl | rfl | rfl <;> exact ⟨⟨by decide, by decide⟩, by decide⟩
theorem wrap_inj {x y : Int} (h : x = -1 ∨ x = 0 ∨ x = 1) (k : y = -1 ∨ y = 0 ∨ y = 1) : IntKind.u64.wrap x = IntKind.u64.wrap y ↔ x = y := by
  rcases h with rfl | rfl | rfl <;> rcases k with rfl | rfl | rfl <;> decide
end Go.Proofs.YthmkllpdkcmccaaGreatDoor
namespace Go.Proofs.YthmkllpdkcmccaaGreatDoor
open Go.RowKit Go.Maps
set_option maxRecDepth 100000
set_option linter.unusedVariables false
set_option linter.unusedSimpArgs false

/-- Within a function that began at w, has blocks of its own below D (those of bs hold what bs says), and notes events on a tape. -/
structure Lp (w : World) (T : Nat → Prop) (tv : Value) (es : List Ev) (D : Nat) (bs : List (Nat × Obj)) (W : World) : Prop where
  moved : Moved T w W
  low : w.heap.size ≤ D
  size : D ≤ W.heap.size
  its : ∀ p ∈ bs, w.heap.size ≤ p.1 ∧ p.1 < D ∧ W.heap[p.1]? = some p.2
  tape : TapeO W (Star w T D) tv es
section
variable {w : World} {T : Nat → Prop} {tv : Value} {es es' : List Ev} {D : Nat} {bs bs' : List (Nat × Obj)} {W W' : World}
theorem Lp.step (h : Lp w T tv es D bs W) (hm : Moved (Star w T D) W W') (ht : TapeO W' (Star w T D) tv es') : Lp w T tv es' D bs W' := by
  have hlow := h.low
  have hsz := h.size
  refine ⟨⟨hm.os.trans h.moved.os, hm.tape.trans h.moved.tape, hm.output.trans h.moved.output, Nat.le_trans h.moved.size hm.size, fun g hg hT => ?_⟩, h.low, Nat.le_trans h.size hm.size, fun p hp => ?_, ht⟩
  · exact (hm.block g (by omega) (fun e => by rcases e with ⟨e, _⟩ | e; exact hT e; omega)).trans (h.moved.block g hg hT)
  · obtain ⟨h1, h2, h3⟩ := h.its p hp
    exact ⟨h1, h2, (hm.block p.1 (by omega) (Star.not h1 h2)).trans h3⟩
theorem Lp.next (h : Lp w T tv es D bs W) (hb : Below W.heap.size W W') : Lp w T tv es D bs W' := h.step (.of_below hb) (h.tape.next hb)
theorem Lp.put (h : Lp w T tv es D bs W) {l : Nat} (hl : w.heap.size ≤ l) (hl2 : l < D) (hn : ∀ p ∈ bs, p.1 ≠ l) (o : Obj) : Lp w T tv es D bs (W.putObj l o) :=
  ⟨⟨h.moved.os, h.moved.tape, h.moved.output, by rw [World.putObj_size]; exact h.moved.size, fun g hg hT => (World.putObj_heap_other (by omega)).trans (h.moved.block g hg hT)⟩, h.low, by rw [World.putObj_size]; exact h.size,
    fun p hp => ⟨(h.its p hp).1, (h.its p hp).2.1, (World.putObj_heap_other (hn p hp)).trans (h.its p hp).2.2⟩, tape_put h.tape hl hl2 o⟩
theorem Lp.sub (h : Lp w T tv es D bs W) (hs : ∀ p ∈ bs', p ∈ bs) : Lp w T tv es D bs' W := ⟨h.moved, h.low, h.size, fun p hp => h.its p (hs p hp), h.tape⟩
theorem Lp.set {b : Nat} {u : Value} {t : TypeId} (h : Lp w T tv es D ((b, .cells #[u] t (0, 0)) :: bs) W) (hn : ∀ p ∈ bs, p.1 ≠ b) (x : Value) : Lp w T tv es D ((b, .cells #[x] t (0, 0)) :: bs) (W.setCell ⟨b, 0, none⟩ x) := by
  obtain ⟨h1, h2, h3⟩ := h.its (b, .cells #[u] t (0, 0)) (by simp)
  have hsz : (W.setCell ⟨b, 0, none⟩ x).heap.size = W.heap.size := by simp
  refine ⟨⟨h.moved.os, h.moved.tape, h.moved.output, by rw [hsz]; exact h.moved.size, fun g hg hT => (Below.heap_setCell _ _ _ _ (by show g ≠ b; simp at h1; omega)).trans (h.moved.block g hg hT)⟩, h.low, by rw [hsz]; exact h.size, fun p hp => ?_, tape_set h.tape h1 h2 x⟩
  rcases List.mem_cons.1 hp with rfl | hp
  · exact ⟨h1, h2, heap_set_one h3⟩
  · obtain ⟨k1, k2, k3⟩ := h.its p (by simp [hp])
    exact ⟨k1, k2, (Below.heap_setCell _ _ _ _ (hn p hp)).trans k3⟩
theorem Lp.at_ {b : Nat} {o : Obj} (h : Lp w T tv es D bs W) (hm : (b, o) ∈ bs) : W.heap[b]? = some o := (h.its _ hm).2.2
theorem Lp.one {b : Nat} {u : Value} {t : TypeId} (h : Lp w T tv es D bs W) (hm : (b, .cells #[u] t (0, 0)) ∈ bs) : W.cell? ⟨b, 0, none⟩ = some u ∧ W.frozen? ⟨b, 0, none⟩ = false := cells_one (h.at_ hm)
theorem Lp.out (h : Lp w T tv es D bs W) : TapeO W (fun g => T g ∨ w.heap.size ≤ g) tv es := h.tape.out h.low
theorem Lp.noted (h : Lp w T tv es D bs W) (g : Nat) (hg : W.heap.size ≤ g) : Star w T D g := .inr (Nat.le_trans h.size hg)
theorem Lp.start (ht : TapeO w T tv es) (hb : Below w.heap.size w W) (hbs : ∀ p ∈ bs, w.heap.size ≤ p.1 ∧ W.heap[p.1]? = some p.2) (hD : D = W.heap.size + 2) (d o : Obj) : Lp w T tv es D bs ((W.alloc d).alloc o) := by
  have h2 : Below W.heap.size W ((W.alloc d).alloc o) := ((Below.refl _ _).alloc (Nat.le_refl _) _).alloc (by simp) _
  have h1 := hb.trans (h2.mono hb.size)
  have hsz := hb.size
  refine ⟨.of_below h1, by omega, by rw [hD]; simp, fun p hp => ?_, tape_start ht hb D d o⟩
  obtain ⟨k1, k2⟩ := hbs p hp
  have hlt : p.1 < W.heap.size := (Array.getElem?_eq_some_iff.1 k2).1
  exact ⟨k1, by omega, (h2.block _ hlt).trans k2⟩
/-- A row that the caller handed over. -/
theorem Lp.row {α : Type} {C : α → List Value} {k : Nat} {Q : Nat → Prop} {A : Option Addr} {l : List α} (h : Lp w T tv es D bs W) (ha : RowR w Q k C A l) (hk : ∀ x, 0 < (C x).length) (hQT : ∀ b, Q b → ¬ T b) : RowR W (fun b => Q b ∧ b < w.heap.size) k C A l :=
  (ha.now hk).keep fun b hb hlt => h.moved.block b hb.2 (hQT b hb.1)
theorem Lp.rowOff {Q : Nat → Prop} (hlow : w.heap.size ≤ D) (hQT : ∀ b, Q b → ¬ T b) : ∀ b, Q b ∧ b < w.heap.size → ¬ Star w T D b := fun b hb e => by
  rcases e with e | e
  · exact hQT b hb.1 e.1
  · have := hb.2; omega
end
end Go.Proofs.YthmkllpdkcmccaaGreatDoor
namespace Go.Proofs.YthmkllpdkcmccaaGreatDoor
open Go.RowKit Go.Maps Go.Shelf
set_option maxRecDepth 100000
set_option linter.unusedVariables false
set_option linter.unusedSimpArgs false
attribute [local go_sem] Oper.semAt_some

theorem isPoly_any (A : Option Addr) (c n : Nat) (r : Bool) (w : World) (hn : n ≤ 1000000) (hr : okN n = r) :
    Calls Tryz.prog 49 #[.slice A n c] w fun e w' => e = .returned (.bool r) ∧ w' = w := by
  by_cases h1 : 3 ≤ n
  · by_cases h2 : n ≤ 64
    · have HR := Lib.hid (show r = true by rw [← hr]; exact (okN_iff n).2 ⟨h1, h2⟩)
      clear hr
      go_enter Tryz.func49, Tryz.ntmps49
      go_wp2
      go_ret
      exact ⟨by rw [HR.out]; simp [go_sem, *] <;> omega, rfl⟩
    · have HR := Lib.hid (show r = false by rw [← hr]; unfold okN; rw [decide_eq_false h2]; simp)
      clear hr
      go_enter Tryz.func49, Tryz.ntmps49
      go_wp2
      go_ret
      exact ⟨by rw [HR.out]; simp [go_sem, *] <;> omega, rfl⟩
  · have HR := Lib.hid (show r = false by rw [← hr]; unfold okN; rw [decide_eq_false h1]; simp)
    clear hr
    go_enter Tryz.func49, Tryz.ntmps49
    go_wp2
    go_ret
    exact ⟨by rw [HR.out]; simp [go_sem, *] <;> omega, rfl⟩
theorem edges_any (A : Option Addr) (n c : Nat) (w : World) :
    Calls Tryz.prog 45 #[.slice A n c] w fun e w' => e = .returned (.func (.func 70) #[] #[.pointer (some ⟨w.heap.size, 0, none⟩)]) ∧ w' = w.alloc (.cells #[.slice A n c] 22) := by
  go_enter Tryz.func45, Tryz.ntmps45
  go_wp2
  go_ret
  exact ⟨rfl, rfl⟩
/-- What the iterator reads between two rounds. -/
def PreE (bv : Nat) (A : Option Addr) (n c : Nat) (W : World) : Prop := W.heap[bv]? = some (.cells #[.slice A n c] 22 (0, 0))
set_option maxHeartbeats 2000000 in
theorem edges_yes (bv : Nat) (A : Option Addr) (n c : Nat) (hn : okN n = true) :
    Yields Fence.wide 8 Tryz.prog 70 #[.pointer (some ⟨bv, 0, none⟩)] (fun k => #[.int .i64 k, .int .i64 (nx n k : Nat)]) n (fun _ W => PreE bv A n c W) (fun _ => Eq) Eq := fun r J Jx W hP hY h0 => by
  obtain ⟨h3, h64⟩ := (okN_iff n).1 hn
  have HO := Lib.hid hn
  clear hn
  refine callsIn_of_wp Tryz.func70 rfl trivial ?_ rfl
  simp only [Tryz.ntmps70, List.size_toArray, List.length_cons, List.length_nil, Nat.reduceAdd, Nat.reduceSub, Array.replicate_succ, Array.replicate_zero, List.push_toArray, List.append_toArray, List.nil_append, List.cons_append]
  have c0 := (cells_one (hP 0 W h0)).1
  gi_wp2_with (fail)
  refine ⟨trivial, (callsIn_wide.2 (isPoly_any A c n true W (by omega) HO.out)).mono ?_⟩
  rintro e w' ⟨rfl, hw'⟩
  obtain rfl := hw'.symm
  gi_wp2
  gi_loopw [9] (fun i wr => ∃ k : Nat, i = .int .i64 k ∧ k ≤ n ∧ J k wr) (fun i _ => n - (intOf i).toNat)
  case atStart => exact ⟨0, rfl, Nat.zero_le _, h0⟩
  case round =>
    clear c0 h0
    obtain ⟨k, rfl, hkn, hJ⟩ := hrel
    have c0 := (cells_one (hP k wr hJ)).1
    by_cases hgo : k < n
    · obtain ⟨q, hq⟩ : ∃ q, q = nx n k := ⟨_, rfl⟩
      have hrem : ((k : Int) + 1).tmod (n : Int) = (q : Int) := by rw [hq]; exact tmod_nx hgo
      have hsum : IntKind.i64.wrap ((k : Int) + 1) = (k : Int) + 1 := wrap_i64' (by omega) (by omega)
      have hN0 : ¬ n = 0 := by omega
      obtain ⟨fn, tmps, assign, body, hy, hR⟩ := hY k wr wr hgo hJ rfl
      rw [← hq] at hy
      clear hq
      gi_wp2_with (fail)
      refine hR.mono ?_
      rintro e W3 (⟨rfl, hJ3⟩ | ⟨rfl, hx⟩)
      · gi_wp2
        go_roundw
        case rel => exact ⟨k + 1, by go_num, hgo, hJ3⟩
        case measure => simp [intOf]; omega
      · gi_wp2
        refine bodyPost_ret (results_none rfl _ _ _) rfl ?_
        exact ⟨⟨_, rfl⟩, .inr ⟨_, hx, rfl⟩⟩
    · gi_wp2
      go_end0
      exact ⟨⟨_, rfl⟩, .inl ⟨_, by rwa [show n = k by omega], rfl⟩⟩
theorem edges_no (bv : Nat) (A : Option Addr) (n c : Nat) (hl : n ≤ 1000000) (hn : okN n = false) :
    Yields Fence.wide 8 Tryz.prog 70 #[.pointer (some ⟨bv, 0, none⟩)] (fun k => #[.int .i64 k, .int .i64 (nx n k : Nat)]) 0 (fun _ W => PreE bv A n c W) (fun _ => Eq) Eq := fun r J Jx W hP hY h0 => by
  have HO := Lib.hid hn
  clear hn
  refine callsIn_of_wp Tryz.func70 rfl trivial ?_ rfl
  simp only [Tryz.ntmps70, List.size_toArray, List.length_cons, List.length_nil, Nat.reduceAdd, Nat.reduceSub, Array.replicate_succ, Array.replicate_zero, List.push_toArray, List.append_toArray, List.nil_append, List.cons_append]
  have c0 := (cells_one (hP 0 W h0)).1
  gi_wp2_with (fail)
  refine ⟨trivial, (callsIn_wide.2 (isPoly_any A c n false W hl HO.out)).mono ?_⟩
  rintro e w' ⟨rfl, hw'⟩
  obtain rfl := hw'.symm
  gi_wp2
  refine bodyPost_ret (results_none rfl _ _ _) rfl ?_
  exact ⟨⟨_, rfl⟩, .inl ⟨_, h0, rfl⟩⟩
theorem orP_no_ {l : List Pt} (h : isP l = false) : orP l = 0 := by unfold orP; rw [h]; rfl
theorem polyOr_c (A : Option Addr) (n c : Nat) (l : List Pt) (r : Int) (Q : Nat → Prop) (w : World) (hw : Wts w) (ha : RowR w Q 2 ptC A l) (hn : n = l.length) (hl : n ≤ 1000000) (hS : SsP l) (hr : orP l = r) :
    Calls Tryz.prog 43 #[.slice A n c] w fun e w' => e = .returned (.int .i64 r) ∧ Below w.heap.size w w' := by
  obtain ⟨N, hN⟩ : ∃ N, N = n := ⟨_, rfl⟩
  rw [← hN] at hn hl ⊢
  clear hN
  have HN := Lib.hid hn
  cases hp : okN N with
  | false =>
    have HR := Lib.hid (show r = 0 by rw [← hr]; exact orP_no_ (by rw [← okN_isP, ← hn]; exact hp))
    have HP := Lib.hid hp
    clear hr hp hn
    go_enter Tryz.func43, Tryz.ntmps43
    go_wp2_with (fail)
    refine (isPoly_any A c N false w hl HP.out).mono ?_
    rintro e w1 ⟨rfl, hw1⟩
    obtain rfl := hw1.symm
    go_wp2
    go_ret
    exact ⟨by rw [HR.out]; rfl, Below.refl _ _⟩
  | true =>
    have hh := (okN_iff N).1 hp
    obtain ⟨b, o, rfl, hz1, hz2, hz3⟩ := ha.pt_ (k := 0) (by omega)
    have p01 := ha.pt2 (k := 0) (by omega)
    have q01 := ha.pt2 (k := 1) (by omega)
    have x01 := ha.pt2 (k := 2) (by omega)
    rw [Nat.zero_mul, Nat.add_zero] at p01
    rw [Nat.one_mul, show o + 2 + 1 = o + 3 from rfl] at q01
    rw [show o + 2 * 2 = o + 4 from rfl, show o + 4 + 1 = o + 5 from rfl] at x01
    obtain ⟨p0, p1⟩ := p01
    obtain ⟨q0, q1⟩ := q01
    obtain ⟨x0, x1⟩ := x01
    have HR0 := Lib.hid (show sgnP (Go.Proofs.YthmkllpdkcmccaaGreatDoor.at_ l 0) (Go.Proofs.YthmkllpdkcmccaaGreatDoor.at_ l 1) (Go.Proofs.YthmkllpdkcmccaaGreatDoor.at_ l 2) = r by rw [← hr]; unfold orP; rw [if_pos (by rw [← okN_isP, ← hn]; exact hp)])
    have HP0 := Lib.hid (hS.ss (k := 0) (by omega))
    have HQ0 := Lib.hid (hS.ss (k := 1) (by omega))
    have HX0 := Lib.hid (hS.ss (k := 2) (by omega))
    generalize Go.Proofs.YthmkllpdkcmccaaGreatDoor.at_ l 0 = P at *
    generalize Go.Proofs.YthmkllpdkcmccaaGreatDoor.at_ l 1 = Q at *
    generalize Go.Proofs.YthmkllpdkcmccaaGreatDoor.at_ l 2 = X at *
    have HR := HR0
    have HP := HP0
    have HQ := HQ0
    have HX := HX0
    have HI := Lib.hid hp
    have hN1 : 0 < N := by omega
    have hN2 : (1 : Int) < (N : Int) := by omega
    have hN3 : (2 : Int) < (N : Int) := by omega
    clear hr hp hn HR0 HP0 HQ0 HX0 hz1 hz2 hz3
    go_enter Tryz.func43, Tryz.ntmps43
    go_wp2_with (fail)
    refine (isPoly_any _ c N true w hl HI.out).mono ?_
    rintro e w1 ⟨rfl, hw1⟩
    obtain rfl := hw1.symm
    clear ha hS hh HI
    go_wp2
    refine dir_plain (by kernel_rfl) 11 [[], [(6, 0)], [(7, 1)], [], [(9, 3)], [(10, 4)], [], [(12, 6)], [(13, 7)], [(8, 2), (11, 5), (14, 8)], [(15, 9)]] [(6, 0), (7, 1), (8, 2), (9, 3), (10, 4), (11, 5), (12, 6), (13, 7), (14, 8), (15, 9), (2, 10)] [
        (fun v _ => v = .slice (some ⟨b, o, none⟩) N c),
        (fun v _ => v = .pointer (some ⟨b, o, none⟩)),
        (fun v _ => v = .agg #[.int .i64 P.x, .int .i64 P.y]),
        (fun v _ => v = .slice (some ⟨b, o, none⟩) N c),
        (fun v _ => v = .pointer (some ⟨b, (o + 2), none⟩)),
        (fun v _ => v = .agg #[.int .i64 Q.x, .int .i64 Q.y]),
        (fun v _ => v = .slice (some ⟨b, o, none⟩) N c),
        (fun v _ => v = .pointer (some ⟨b, (o + 4), none⟩)),
        (fun v _ => v = .agg #[.int .i64 X.x, .int .i64 X.y]),
        (fun v _ => v = .int .i64 r),
        (fun v _ => v = .int .i64 r)
      ] (by kernel_rfl) (by kernel_rfl) (by kernel_rfl) (by decide) ⟨dstab_eq, dstab_eq, dstab_eq, dstab_eq, dstab_eq, dstab_eq, dstab_eq, dstab_eq, dstab_eq, dstab_eq, dstab_eq, trivial⟩ ?steps ?fin
    case steps =>
      refine ⟨?_, ?_, ?_, ?_, ?_, ?_, ?_, ?_, ?_, ?_, ?_, trivial⟩
      · intro vs g w2 hI hF hR K hK
        simp only [Facts, fill, Act.put, z1, z2, z3, z4, z5, Nat.reduceAdd] at hF hR hK ⊢
        go_simp
        exact hK _ () _ hI (Below.refl _ _) rfl
      · intro vs g w2 hI hF hR K hK
        simp only [Facts, fill, Act.put, z1, z2, z3, z4, z5, Nat.reduceAdd] at hF hR hK ⊢
        obtain ⟨r0, -⟩ := hR
        generalize vs 0 = x0 at *
        subst r0
        have HM1 := hN1
        go_simp
        exact hK _ () _ hI (Below.refl _ _) rfl
      · intro vs g w2 hI hF hR K hK
        simp only [Facts, fill, Act.put, z1, z2, z3, z4, z5, Nat.reduceAdd] at hF hR hK ⊢
        obtain ⟨r1, -⟩ := hR
        generalize vs 1 = x1 at *
        subst r1
        have k0 := (hI.cell (lt_of_cell p0)).trans p0
        have k1 := (hI.cell (lt_of_cell p1)).trans p1
        go_simp
        exact hK _ () _ hI (Below.refl _ _) rfl
      · intro vs g w2 hI hF hR K hK
        simp only [Facts, fill, Act.put, z1, z2, z3, z4, z5, Nat.reduceAdd] at hF hR hK ⊢
        go_simp
        exact hK _ () _ hI (Below.refl _ _) rfl
      · intro vs g w2 hI hF hR K hK
        simp only [Facts, fill, Act.put, z1, z2, z3, z4, z5, Nat.reduceAdd] at hF hR hK ⊢
        obtain ⟨r3, -⟩ := hR
        generalize vs 3 = x3 at *
        subst r3
        have HM1 := hN2
        go_simp
        exact hK _ () _ hI (Below.refl _ _) rfl
      · intro vs g w2 hI hF hR K hK
        simp only [Facts, fill, Act.put, z1, z2, z3, z4, z5, Nat.reduceAdd] at hF hR hK ⊢
        obtain ⟨r4, -⟩ := hR
        generalize vs 4 = x4 at *
        subst r4
        have k0 := (hI.cell (lt_of_cell q0)).trans q0
        have k1 := (hI.cell (lt_of_cell q1)).trans q1
        go_simp
        exact hK _ () _ hI (Below.refl _ _) rfl
      · intro vs g w2 hI hF hR K hK
        simp only [Facts, fill, Act.put, z1, z2, z3, z4, z5, Nat.reduceAdd] at hF hR hK ⊢
        go_simp
        exact hK _ () _ hI (Below.refl _ _) rfl
      · intro vs g w2 hI hF hR K hK
        simp only [Facts, fill, Act.put, z1, z2, z3, z4, z5, Nat.reduceAdd] at hF hR hK ⊢
        obtain ⟨r6, -⟩ := hR
        generalize vs 6 = x6 at *
        subst r6
        have HM1 := hN3
        go_simp
        exact hK _ () _ hI (Below.refl _ _) rfl
      · intro vs g w2 hI hF hR K hK
        simp only [Facts, fill, Act.put, z1, z2, z3, z4, z5, Nat.reduceAdd] at hF hR hK ⊢
        obtain ⟨r7, -⟩ := hR
        generalize vs 7 = x7 at *
        subst r7
        have k0 := (hI.cell (lt_of_cell x0)).trans x0
        have k1 := (hI.cell (lt_of_cell x1)).trans x1
        go_simp
        exact hK _ () _ hI (Below.refl _ _) rfl
      · intro vs g w2 hI hF hR K hK
        simp only [Facts, fill, Act.put, z1, z2, z3, z4, z5, Nat.reduceAdd] at hF hR hK ⊢
        obtain ⟨r2, r5, r8, -⟩ := hR
        generalize vs 2 = x2, vs 5 = x5, vs 8 = x8 at *
        subst r2 r5 r8
        go_simp
        refine (orSign_d P Q X w2 (hw.below hI) HP.out HQ.out HX.out r HR.out).mono ?_
        rintro e w3 ⟨rfl, hb⟩
        exact hK _ () _ (hI.trans (hb.mono hI.size)) hb rfl
      · intro vs g w2 hI hF hR K hK
        simp only [Facts, fill, Act.put, z1, z2, z3, z4, z5, Nat.reduceAdd] at hF hR hK ⊢
        obtain ⟨r9, -⟩ := hR
        generalize vs 9 = x9 at *
        subst r9
        go_simp
        exact hK _ () _ hI (Below.refl _ _) rfl
    case fin =>
      intro vs w2 hI hR
      have r10 := hR 10 (by decide)
      simp only [fill, Act.put, z1, z2, z3, z4, z5] at r10 ⊢
      clear hR
      generalize vs 10 = x10 at *
      subst r10
      refine NoPanic.normal ?_
      go_wp2
      go_ret
      exact ⟨rfl, hI⟩
end Go.Proofs.YthmkllpdkcmccaaGreatDoor
namespace Go.Proofs.YthmkllpdkcmccaaGreatDoor
open Go.RowKit Go.Maps Go.Shelf
set_option maxRecDepth 100000
set_option linter.unusedVariables false
set_option linter.unusedSimpArgs false
attribute [local go_sem] Oper.semAt_some

theorem zero_x (x : Int) (hx : -1 ≤ x ∧ x ≤ 1) (w : World) (hw : Wts w) : Calls Tryz.prog 44 #[.int .u64 (IntKind.u64.wrap x)] w fun e w' => e = .returned (.int .u64 (mk (decide (x = 0)))) ∧ Below w.heap.size w w' := by
  have h : x = -1 ∨ x = 0 ∨ x = 1 := by omega
  obtain ⟨h1, h2⟩ := wrap_sgn h
  refine (zero_b _ h1 w hw).mono ?_
  rintro e w' ⟨rfl, hb⟩
  exact ⟨by rw [decide_eq_decide.2 h2], hb⟩
/-- What has been seen below k. -/
def outB (l : List Pt) (p : Pt) (k : Nat) : Bool := (sides l p k).any fun x => decide (x < 0)
def bdB (l : List Pt) (p : Pt) (k : Nat) : Bool := (sides l p k).any fun x => decide (x = 0)
theorem outB_succ (l : List Pt) (p : Pt) (k : Nat) : outB l p (k + 1) = (outB l p k || decide (orP l * side l k p < 0)) := by unfold outB; rw [sides_succ, List.any_append]; simp
theorem bdB_succ (l : List Pt) (p : Pt) (k : Nat) : bdB l p (k + 1) = (bdB l p k || decide (orP l * side l k p = 0)) := by unfold bdB; rw [sides_succ, List.any_append]; simp
theorem cells_pt {w : World} {b : Nat} {u v : Value} {t : TypeId} (h : w.heap[b]? = some (.cells #[u, v] t (0, 0))) : w.cell? ⟨b, 0, none⟩ = some u ∧ w.cell? ⟨b, 1, none⟩ = some v := by
  constructor <;> simp [World.cell?, h]
theorem addT_zero_ {w : World} {T : Nat → Prop} {v : Value} {l : List Ev} (h : TapeO w T v l) {kind : Int} : addT v l (evR kind 0) = l := by
  rcases h with ⟨rfl, rfl⟩ | ⟨tb, rfl, _⟩
  · rfl
  · simp [addT, evR]
theorem side_in_ (l : List Pt) (i : Nat) (p : Pt) : side l i p = -1 ∨ side l i p = 0 ∨ side l i p = 1 := sgn_in _ _ _
theorem mul_in_ {s r : Int} (hs : s = -1 ∨ s = 0 ∨ s = 1) (hr : r = -1 ∨ r = 0 ∨ r = 1) : -1 ≤ s * r ∧ s * r ≤ 1 := by
  rcases hs with rfl | rfl | rfl <;> rcases hr with rfl | rfl | rfl <;> decide
theorem sgn_loc (l : List Pt) (p : Pt) (h : isP l = true) : sgn3 (mk (outB l p l.length)) (mk (bdB l p l.length)) = locP l p := by
  unfold locP
  rw [if_pos h]
  have hin : ∀ x ∈ sides l p l.length, -1 ≤ x ∧ x ≤ 1 := fun x hx => by
    obtain ⟨i, _, rfl⟩ := mem_sides.1 hx
    exact mul_in_ (or_in l) (side_in_ l i p)
  unfold outB bdB
  generalize sides l p l.length = L at hin
  by_cases h1 : L.any (fun x => decide (x < 0)) = true
  · obtain ⟨x, hx, hx2⟩ := List.any_eq_true.1 h1
    have hx3 : x = -1 := by have := hin x hx; simp at hx2; omega
    rw [h1, minL_eq (m := -1) (by decide) (fun y hy => (hin y hy).1) (.inr (hx3 ▸ hx))]
    cases L.any (fun x => decide (x = 0)) <;> decide +kernel
  · have h2 : L.any (fun x => decide (x < 0)) = false := by simpa using h1
    have h3 : ∀ x ∈ L, 0 ≤ x := fun x hx => by
      have h4 := List.any_eq_false.1 h2 x hx
      simpa using h4
    rw [h2]
    by_cases h4 : L.any (fun x => decide (x = 0)) = true
    · obtain ⟨x, hx, hx2⟩ := List.any_eq_true.1 h4
      have hx3 : x = 0 := by simpa using hx2
      rw [h4, minL_eq (m := 0) (by decide) h3 (.inr (hx3 ▸ hx))]
      decide +kernel
    · have h5 : L.any (fun x => decide (x = 0)) = false := by rwa [Bool.not_eq_true] at h4
      rw [h5, minL_eq (m := 1) (by decide) (fun x hx => by have h6 := List.any_eq_false.1 h5 x hx; have := h3 x hx; simp only [decide_eq_true_eq] at h6; omega) (.inl rfl)]
      decide +kernel
theorem U_mkB (b : Bool) : U (mk b) := by cases b <;> exact ⟨by decide, by decide⟩
set_option maxHeartbeats 4000000 in
theorem polyLocate_c (tv : Value) (evs : List Ev) (T Q : Nat → Prop) (A : Option Addr) (n c : Nat) (l : List Pt) (p : Pt) (r : Int) (w : World) (hw : ∀ W, Moved T w W → Wts W) (ht : TapeO w T tv evs) (he : evs.length ≤ 990000) (ha : RowR w Q 2 ptC A l) (hQT : ∀ b, Q b → ¬ T b) (hn : n = l.length) (hl : n ≤ 1000000) (hS : SsP l) (hp : S p.x ∧ S p.y) (hr : locP l p = r) :
    Calls Tryz.prog 23 #[tv, .slice A n c, .agg #[.int .i64 p.x, .int .i64 p.y]] w fun e w' => e = .returned (.int .i64 r) ∧ TapeO w' (fun g => T g ∨ w.heap.size ≤ g) tv (addT tv evs (locateE n)) ∧ Moved T w w' := by
  have HN := Lib.hid hn
  obtain ⟨tp, rfl⟩ : ∃ tp, tv = .pointer tp := by rcases ht with ⟨rfl, _⟩ | ⟨tb, rfl, _⟩ <;> exact ⟨_, rfl⟩
  obtain ⟨os, hos⟩ : ∃ os : List Obj, os = [.cells #[.pointer tp] 26, .cells #[.slice A n c] 22, .cells #[.int .i64 p.x, .int .i64 p.y] 24] := ⟨_, rfl⟩
  obtain ⟨W0, hW0⟩ : ∃ W0, W0 = allocs w os := ⟨_, rfl⟩
  have hsz : W0.heap.size = w.heap.size + 3 := by rw [hW0, allocs_size, hos]; rfl
  have hbw : Below w.heap.size w W0 := by rw [hW0]; exact allocs_below os w
  have a0 : W0.heap[w.heap.size]? = some (.cells #[.pointer tp] 26) := by have := allocs_at os w 0 (by rw [hos]; simp); rw [hW0]; rw [hos] at this ⊢; exact this
  have a1 : W0.heap[w.heap.size + 1]? = some (.cells #[.slice A n c] 22) := by have := allocs_at os w 1 (by rw [hos]; simp); rw [hW0]; rw [hos] at this ⊢; exact this
  have a2 : W0.heap[w.heap.size + 1 + 1]? = some (.cells #[.int .i64 p.x, .int .i64 p.y] 24) := by have := allocs_at os w 2 (by rw [hos]; simp); rw [hW0]; rw [hos] at this ⊢; exact this
  have HW := Lib.hid (show allocs w [.cells #[.pointer tp] 26, .cells #[.slice A n c] 22, .cells #[.int .i64 p.x, .int .i64 p.y] 24] = W0 by rw [hW0, hos])
  obtain ⟨c1, _⟩ := cells_one a1
  clear hW0 hos hn
  refine (callsIn_wide (n := 9)).1 ?_
  refine callsIn_of_wp_marks Tryz.func23 rfl trivial ?_ rfl
  simp only [Tryz.ntmps23, List.size_toArray, List.length_cons, List.length_nil, Nat.reduceAdd, Nat.reduceSub, Array.replicate_succ, Array.replicate_zero, List.push_toArray, List.append_toArray, List.nil_append, List.cons_append]
  gi_wp2_with (fail)
  refine ⟨trivial, ?_⟩
  change CallsIn _ _ _ _ _ (allocs w [.cells #[.pointer tp] 26, .cells #[.slice A n c] 22, .cells #[.int .i64 p.x, .int .i64 p.y] 24]) _
  rw [HW.out]
  cases ho : okN n with
  | false =>
    refine (callsIn_wide.2 (isPoly_any A c n false W0 hl ho)).mono ?_
    rintro e w1 ⟨rfl, hw1⟩
    obtain rfl := hw1.symm
    have HR := Lib.hid (show r = -1 by rw [← hr]; unfold locP; rw [← okN_isP, ← HN.out, ho]; rfl)
    have HE := Lib.hid (show locateE n = [] by unfold locateE; rw [ho]; rfl)
    have HT := Lib.hid ht
    clear hr ho ht ha hS
    gi_wp2
    exact ⟨_, results_tmp rfl _ _ _, by rw [HR.out]; rfl, by rw [HE.out, addT_nil HT.out]; exact (HT.out.next hbw).imp fun g hg => .inl hg, .of_below hbw⟩
  | true =>
    refine (callsIn_wide.2 (isPoly_any A c n true W0 hl ho)).mono ?_
    rintro e w1 ⟨rfl, hw1⟩
    obtain rfl := hw1.symm
    obtain ⟨h3, h64⟩ := (okN_iff n).1 ho
    have HO := Lib.hid ho
    have HE := Lib.hid (show locateE n = evR 5 n by unfold locateE; rw [if_pos ho])
    have HR := Lib.hid (show sgn3 (mk (outB l p n)) (mk (bdB l p n)) = r by rw [HN.out, sgn_loc l p (by rw [← okN_isP, ← HN.out]; exact ho)]; exact hr)
    obtain ⟨s, hs⟩ : ∃ s, orP l = s := ⟨_, rfl⟩
    have HS := Lib.hid hs
    have hs1 : s = -1 ∨ s = 0 ∨ s = 1 := by rw [← hs]; exact or_in l
    obtain ⟨b, o, rfl, hz1, hz2, hz3⟩ := ha.pt_ (k := 0) (by rw [← HN.out]; omega)
    clear hr ho hs hz1 hz2 hz3
    gi_wp2_with (fail)
    refine ⟨trivial, (callsIn_wide.2 (polyOr_c (some ⟨b, o, none⟩) n c l s _ W0 (hw W0 (.of_below hbw)) (ha.next hbw) HN.out hl hS HS.out)).mono ?_⟩
    rintro e w1 ⟨rfl, hb1⟩
    obtain ⟨g, hg⟩ : ∃ g, g = w1.heap.size := ⟨_, rfl⟩
    have hgs : w.heap.size + 3 ≤ g := by have := hb1.size; omega
    have b0 := (hb1.block _ (by omega)).trans a0
    have b1 := (hb1.block _ (by omega)).trans a1
    have b2 := (hb1.block _ (by omega)).trans a2
    obtain ⟨os1, hos1⟩ : ∃ os : List Obj, os = [.cells #[.int .i64 s] 2, .cells #[.int .u64 0] 64, .cells #[.int .u64 0] 64] := ⟨_, rfl⟩
    obtain ⟨W2, hW2⟩ : ∃ W2, W2 = allocs w1 os1 := ⟨_, rfl⟩
    have hsz2 : W2.heap.size = g + 3 := by rw [hW2, allocs_size, hos1, hg]; rfl
    have hb2 : Below g w1 W2 := by rw [hW2, hg]; exact allocs_below os1 w1
    have d0 : W2.heap[g]? = some (.cells #[.int .i64 s] 2) := by have := allocs_at os1 w1 0 (by rw [hos1]; simp); rw [hW2, hg]; rw [hos1] at this ⊢; exact this
    have d1 : W2.heap[g + 1]? = some (.cells #[.int .u64 0] 64) := by have := allocs_at os1 w1 1 (by rw [hos1]; simp); rw [hW2, hg]; rw [hos1] at this ⊢; exact this
    have d2 : W2.heap[g + 1 + 1]? = some (.cells #[.int .u64 0] 64) := by have := allocs_at os1 w1 2 (by rw [hos1]; simp); rw [hW2, hg]; rw [hos1] at this ⊢; exact this
    have e0 := (hb2.block _ (by omega)).trans b0
    have e1 := (hb2.block _ (by omega)).trans b1
    have e2 := (hb2.block _ (by omega)).trans b2
    have HW2 := Lib.hid (show allocs w1 [.cells #[.int .i64 s] 2, .cells #[.int .u64 0] 64, .cells #[.int .u64 0] 64] = W2 by rw [hW2, hos1])
    have hbW2 : Below w.heap.size w W2 := hbw.trans ((hb1.mono (by omega)).trans (hb2.mono (by omega)))
    obtain ⟨W3, hW3⟩ : ∃ W3, W3 = W2.alloc (.cells #[.slice (some ⟨b, o, none⟩) n c] 22) := ⟨_, rfl⟩
    have hsz3 : W3.heap.size = g + 4 := by rw [hW3, World.size_alloc, hsz2]
    have hb3 : Below W2.heap.size W2 W3 := by rw [hW3]; exact (Below.refl _ _).alloc (Nat.le_refl _) _
    have f3 : W3.heap[g + 1 + 1 + 1]? = some (.cells #[.slice (some ⟨b, o, none⟩) n c] 22) := by rw [hW3]; have := heap_alloc_new W2 (.cells #[.slice (some ⟨b, o, none⟩) n c] 22); rwa [hsz2] at this
    have k0 := (hb3.block _ (by omega)).trans e0
    have k1 := (hb3.block _ (by omega)).trans e1
    have k2 := (hb3.block _ (by omega)).trans e2
    have j0 := (hb3.block _ (by omega)).trans d0
    have j1 := (hb3.block _ (by omega)).trans d1
    have j2 := (hb3.block _ (by omega)).trans d2
    have hbW3 : Below w.heap.size w W3 := hbW2.trans (hb3.mono (by omega))
    have HW3 := Lib.hid hW3.symm
    have c1' : (((w1.alloc (.cells #[.int .i64 s] 2)).alloc (.cells #[.int .u64 0] 64)).alloc (.cells #[.int .u64 0] 64)).cell? ⟨w.heap.size + 1, 0, none⟩ = some (.slice (some ⟨b, o, none⟩) n c) := by
      have := (cells_one e1).1
      rw [← HW2.out] at this
      exact this
    have HG := Lib.hid hg
    clear c1 hW2 hos1 hW3 b0 b1 b2 a0 a1 a2 d0 d1 d2 e0 e1 e2 hg os1
    gi_wp2_with (fail)
    refine ⟨trivial, ?_⟩
    change CallsIn _ _ _ _ _ (allocs w1 [.cells #[.int .i64 s] 2, .cells #[.int .u64 0] 64, .cells #[.int .u64 0] 64]) _
    rw [HW2.out, ← HG.out]
    refine (callsIn_wide.2 (edges_any (some ⟨b, o, none⟩) n c W2)).mono ?_
    rintro e w3 ⟨rfl, hw3⟩
    rw [HW3.out] at hw3
    obtain rfl := hw3.symm
    rw [hsz2]
    clear c1'
    gi_wp2_with (fail)
    refine wpIn_rangeFunc_y (F := Fence.wide) rfl (by decide) (gf := 70) rfl trivial (enters_of Tryz.func70 (by kernel_rfl) rfl)
      (edges_yes (g + 1 + 1 + 1) (some ⟨b, o, none⟩) n c HO.out) (fun _ => rfl)
      (fun k W => Lp w T (.pointer tp) (addT (.pointer tp) evs (evR 5 k)) (g + 6) [(g + 1, .cells #[.int .u64 (mk (outB l p k))] 64), (g + 1 + 1, .cells #[.int .u64 (mk (bdB l p k))] 64), (g, .cells #[.int .i64 s] 2), (w.heap.size, .cells #[.pointer tp] 26), (w.heap.size + 1, .cells #[.slice (some ⟨b, o, none⟩) n c] 22), (w.heap.size + 1 + 1, .cells #[.int .i64 p.x, .int .i64 p.y] 24), (g + 1 + 1 + 1, .cells #[.slice (some ⟨b, o, none⟩) n c] 22)] W)
      (fun k W => Lp w T (.pointer tp) (addT (.pointer tp) evs (evR 5 k)) (g + 6) [(g + 1, .cells #[.int .u64 (mk (outB l p k))] 64), (g + 1 + 1, .cells #[.int .u64 (mk (bdB l p k))] 64), (g, .cells #[.int .i64 s] 2), (w.heap.size, .cells #[.pointer tp] 26), (w.heap.size + 1, .cells #[.slice (some ⟨b, o, none⟩) n c] 22), (w.heap.size + 1 + 1, .cells #[.int .i64 p.x, .int .i64 p.y] 24), (g + 1 + 1 + 1, .cells #[.slice (some ⟨b, o, none⟩) n c] 22)] W)
      (fun _ _ => False) ?hI ?hIm (fun _ _ _ h => h) ?h0 ?hpre ?hst ?hfi (fun _ _ _ _ h => h.elim)
      (fun k => { tmps := #[.pointer tp, .slice (some ⟨b, o, none⟩) n c, .agg #[.int .i64 p.x, .int .i64 p.y], .pointer (some ⟨w.heap.size, 0, none⟩), .pointer (some ⟨w.heap.size + 1, 0, none⟩), .pointer (some ⟨w.heap.size + 1 + 1, 0, none⟩), .int .i64 0, .pointer (some ⟨g, 0, none⟩), .pointer (some ⟨g + 1, 0, none⟩), .pointer (some ⟨g + 1 + 1, 0, none⟩), .int .i64 k, .int .i64 (nx n k : Nat), undef, .slice (some ⟨b, o, none⟩) n c, .bool true, .bool false, .slice (some ⟨b, o, none⟩) n c, .int .i64 s, .slice (some ⟨b, o, none⟩) n c, .func (.func 70) #[] #[.pointer (some ⟨g + 1 + 1 + 1, 0, none⟩)], .int .i64 k, .int .i64 (nx n k : Nat), undef, undef, undef, undef, undef, undef, undef, undef, undef, undef, undef, undef, undef, undef, undef, undef, undef, undef, undef, undef, undef, undef, undef, undef, undef, undef, undef], defers := [] }) ?assign ?body ?done ?stop
    case hI => exact fun k W o h => h.put (by omega) (by omega) (by simp; omega) o
    case hIm => exact fun k W o h => h.put (by omega) (by omega) (by simp; omega) o
    case h0 =>
      intro o'
      refine Lp.start (by rw [addT_zero_ ht]; exact ht) hbW3 ?_ (by omega) _ _
      simp only [List.forall_mem_cons, List.not_mem_nil, false_imp_iff, implies_true, and_true]
      exact ⟨⟨by omega, j1⟩, ⟨by omega, j2⟩, ⟨by omega, j0⟩, ⟨by omega, k0⟩, ⟨by omega, k1⟩, ⟨by omega, k2⟩, by omega, f3⟩
    case hpre => exact fun k W h => h.at_ (.tail _ (.tail _ (.tail _ (.tail _ (.tail _ (.tail _ (.head _)))))))
    case hst => exact fun k W W' _ _ h e => e ▸ ⟨Same2.refl _ _, h⟩
    case hfi => exact fun W W' _ h e => e ▸ ⟨Same2.refl _ _, h⟩
    case assign =>
      intro r' k W K hK
      gi_wp2
      exact hK
    case body =>
      rintro r' k W hkn hlt h
      obtain ⟨t0, _⟩ := h.one (b := w.heap.size) (.tail _ (.tail _ (.tail _ (.head _))))
      have hel : (addT (.pointer tp) evs (evR 5 k)).length ≤ 1000000 := by
        have h1 := addT_le (.pointer tp) evs (evR 5 k)
        rw [evR_len] at h1
        omega
      gi_wp2_with (fail)
      refine ⟨trivial, (callsIn_wide.2 (noteO_any (.pointer tp) _ _ 5 k 0 W h.tape hel (by decide) h.noted)).mono ?_⟩
      rintro e W1 ⟨rfl, ht1, hm1⟩
      rw [addT_evR] at ht1
      have h1 := h.step hm1 ht1
      have hs1' : Same2 W3.heap.size W W1 := hm1.same2 (by omega) (by omega) hlt
      have hsz1 := hm1.size
      clear h t0 hel ht1 hm1
      have hwt := hw W1 h1.moved
      obtain ⟨d7, _⟩ := h1.one (b := g) (.tail _ (.tail _ (.head _)))
      obtain ⟨c1, _⟩ := h1.one (b := w.heap.size + 1) (.tail _ (.tail _ (.tail _ (.tail _ (.head _)))))
      obtain ⟨x0, x1⟩ := cells_pt (h1.at_ (b := w.heap.size + 1 + 1) (.tail _ (.tail _ (.tail _ (.tail _ (.tail _ (.head _)))))))
      have hrow := h1.row ha (fun _ => by simp [ptC]) hQT
      obtain ⟨j, hj⟩ : ∃ j, j = nx n k := ⟨_, rfl⟩
      have hjn : j < n := by rw [hj]; exact nx_lt (by omega)
      obtain ⟨p0, p1⟩ := hrow.pt2 (k := k) (by rw [← HN.out]; exact hkn)
      obtain ⟨q0, q1⟩ := hrow.pt2 (k := j) (by rw [← HN.out]; exact hjn)
      have HP := Lib.hid (hS.ss (k := k) (by rw [← HN.out]; exact hkn))
      have HR1 := Lib.hid (hS.ss (k := j) (by rw [← HN.out]; exact hjn))
      have HX := Lib.hid hp
      obtain ⟨q, hq⟩ : ∃ q, side l k p = q := ⟨_, rfl⟩
      have hq1 := side_in_ l k p
      rw [hq] at hq1
      have HQ := Lib.hid (show sgnP (Go.Proofs.YthmkllpdkcmccaaGreatDoor.at_ l k) (Go.Proofs.YthmkllpdkcmccaaGreatDoor.at_ l j) p = q by rw [← hq, hj, HN.out]; rfl)
      obtain ⟨x, hx⟩ : ∃ x, s * q = x := ⟨_, rfl⟩
      have hx1 := mul_in_ hs1 hq1
      rw [hx] at hx1
      have hwr : IntKind.i64.wrap (s * q) = x := by rw [hx]; exact wrap_i64' (by omega) (by omega)
      have Sx : S x := by unfold S; omega
      have HO1 := Lib.hid (show bits .or .u64 (mk (outB l p k)) (mk (decide (x < 0))) = mk (outB l p (k + 1)) by rw [mk_or, outB_succ, HS.out, hq, hx])
      have HB1 := Lib.hid (show bits .or .u64 (mk (bdB l p k)) (mk (decide (x = 0))) = mk (bdB l p (k + 1)) by rw [mk_or, bdB_succ, HS.out, hq, hx])
      rw [← hj]
      clear hj hq hx
      generalize Go.Proofs.YthmkllpdkcmccaaGreatDoor.at_ l k = P at *
      generalize Go.Proofs.YthmkllpdkcmccaaGreatDoor.at_ l j = R at *
      obtain ⟨bo, hbo⟩ : ∃ bo, bo = outB l p k := ⟨_, rfl⟩
      obtain ⟨bd, hbd⟩ : ∃ bd, bd = bdB l p k := ⟨_, rfl⟩
      rw [← hbo] at h1 HO1
      rw [← hbd] at h1 HB1
      have hmx : Tryz.prog.follows .mixedOrders = true := by kernel_rfl
      clear hbo hbd
      gi_wp2
      refine dir_round hmx (by kernel_rfl) (fun _ _ h => h) 13 [[], [], [], [(26, 1), (27, 2)], [(28, 3)], [], [], [(30, 5), (31, 6)], [(32, 7)], [], [(29, 4), (33, 8), (34, 9)], [(25, 0), (35, 10)], [(36, 11)]] [(25, 0), (26, 1), (27, 2), (28, 3), (29, 4), (30, 5), (31, 6), (32, 7), (33, 8), (34, 9), (35, 10), (36, 11), (12, 12)] [
          (fun v _ => v = .int .i64 s),
          (fun v _ => v = .slice (some ⟨b, o, none⟩) n c),
          (fun v _ => v = .int .i64 k),
          (fun v _ => v = .pointer (some ⟨b, (o + k * 2), none⟩)),
          (fun v _ => v = .agg #[.int .i64 P.x, .int .i64 P.y]),
          (fun v _ => v = .slice (some ⟨b, o, none⟩) n c),
          (fun v _ => v = .int .i64 j),
          (fun v _ => v = .pointer (some ⟨b, (o + j * 2), none⟩)),
          (fun v _ => v = .agg #[.int .i64 R.x, .int .i64 R.y]),
          (fun v _ => v = .agg #[.int .i64 p.x, .int .i64 p.y]),
          (fun v _ => v = .int .i64 q),
          (fun v _ => v = .int .i64 x),
          (fun v _ => v = .int .i64 x)
        ] (by kernel_rfl) (by kernel_rfl) (by kernel_rfl) (by decide) ⟨dstab_eq, dstab_eq, dstab_eq, dstab_eq, dstab_eq, dstab_eq, dstab_eq, dstab_eq, dstab_eq, dstab_eq, dstab_eq, dstab_eq, dstab_eq, trivial⟩ ?steps ?fin
      case steps =>
        refine ⟨?_, ?_, ?_, ?_, ?_, ?_, ?_, ?_, ?_, ?_, ?_, ?_, ?_, trivial⟩
        · intro vs g w2 hI hF hR K hK
          simp only [Facts, fill, Act.put, z1, z2, z3, z4, z5, Nat.reduceAdd] at hF hR hK ⊢
          have k0 := (hI.cell (lt_of_cell d7)).trans d7
          go_simp
          exact hK _ () _ hI (Below.refl _ _) rfl
        · intro vs g w2 hI hF hR K hK
          simp only [Facts, fill, Act.put, z1, z2, z3, z4, z5, Nat.reduceAdd] at hF hR hK ⊢
          have k0 := (hI.cell (lt_of_cell c1)).trans c1
          go_simp
          exact hK _ () _ hI (Below.refl _ _) rfl
        · intro vs g w2 hI hF hR K hK
          simp only [Facts, fill, Act.put, z1, z2, z3, z4, z5, Nat.reduceAdd] at hF hR hK ⊢
          go_simp
          exact hK _ () _ hI (Below.refl _ _) rfl
        · intro vs g w2 hI hF hR K hK
          simp only [Facts, fill, Act.put, z1, z2, z3, z4, z5, Nat.reduceAdd] at hF hR hK ⊢
          obtain ⟨r1, r2, -⟩ := hR
          generalize vs 1 = x1, vs 2 = x2 at *
          subst r1 r2
          go_simp
          exact hK _ () _ hI (Below.refl _ _) rfl
        · intro vs g w2 hI hF hR K hK
          simp only [Facts, fill, Act.put, z1, z2, z3, z4, z5, Nat.reduceAdd] at hF hR hK ⊢
          obtain ⟨r3, -⟩ := hR
          generalize vs 3 = x3 at *
          subst r3
          have k0 := (hI.cell (lt_of_cell p0)).trans p0
          have k1 := (hI.cell (lt_of_cell p1)).trans p1
          go_simp
          exact hK _ () _ hI (Below.refl _ _) rfl
        · intro vs g w2 hI hF hR K hK
          simp only [Facts, fill, Act.put, z1, z2, z3, z4, z5, Nat.reduceAdd] at hF hR hK ⊢
          have k0 := (hI.cell (lt_of_cell c1)).trans c1
          go_simp
          exact hK _ () _ hI (Below.refl _ _) rfl
        · intro vs g w2 hI hF hR K hK
          simp only [Facts, fill, Act.put, z1, z2, z3, z4, z5, Nat.reduceAdd] at hF hR hK ⊢
          go_simp
          exact hK _ () _ hI (Below.refl _ _) rfl
        · intro vs g w2 hI hF hR K hK
          simp only [Facts, fill, Act.put, z1, z2, z3, z4, z5, Nat.reduceAdd] at hF hR hK ⊢
          obtain ⟨r5, r6, -⟩ := hR
          generalize vs 5 = x5, vs 6 = x6 at *
          subst r5 r6
          go_simp
          exact hK _ () _ hI (Below.refl _ _) rfl
        · intro vs g w2 hI hF hR K hK
          simp only [Facts, fill, Act.put, z1, z2, z3, z4, z5, Nat.reduceAdd] at hF hR hK ⊢
          obtain ⟨r7, -⟩ := hR
          generalize vs 7 = x7 at *
          subst r7
          have k0 := (hI.cell (lt_of_cell q0)).trans q0
          have k1 := (hI.cell (lt_of_cell q1)).trans q1
          go_simp
          exact hK _ () _ hI (Below.refl _ _) rfl
        · intro vs g w2 hI hF hR K hK
          simp only [Facts, fill, Act.put, z1, z2, z3, z4, z5, Nat.reduceAdd] at hF hR hK ⊢
          have k0 := (hI.cell (lt_of_cell x0)).trans x0
          have k1 := (hI.cell (lt_of_cell x1)).trans x1
          go_simp
          exact hK _ () _ hI (Below.refl _ _) rfl
        · intro vs g w2 hI hF hR K hK
          simp only [Facts, fill, Act.put, z1, z2, z3, z4, z5, Nat.reduceAdd] at hF hR hK ⊢
          obtain ⟨r4, r8, r9, -⟩ := hR
          generalize vs 4 = x4, vs 8 = x8, vs 9 = x9 at *
          subst r4 r8 r9
          go_simp
          refine (orSign_d P R p w2 (hwt.below hI) HP.out HR1.out HX.out q HQ.out).mono ?_
          rintro e w3 ⟨rfl, hb⟩
          exact hK _ () _ (hI.trans (hb.mono hI.size)) hb rfl
        · intro vs g w2 hI hF hR K hK
          simp only [Facts, fill, Act.put, z1, z2, z3, z4, z5, Nat.reduceAdd] at hF hR hK ⊢
          obtain ⟨r0, r10, -⟩ := hR
          generalize vs 0 = x0, vs 10 = x10 at *
          subst r0 r10
          have HM := hwr
          go_simp
          exact hK _ () _ hI (Below.refl _ _) rfl
        · intro vs g w2 hI hF hR K hK
          simp only [Facts, fill, Act.put, z1, z2, z3, z4, z5, Nat.reduceAdd] at hF hR hK ⊢
          obtain ⟨r11, -⟩ := hR
          generalize vs 11 = x11 at *
          subst r11
          go_simp
          exact hK _ () _ hI (Below.refl _ _) rfl
      case fin =>
        intro vs w2 hI hR
        have r12 := hR 12 (by decide)
        simp only [fill, Act.put, z1, z2, z3, z4, z5] at r12 ⊢
        clear hR
        generalize vs 12 = x12 at *
        subst r12
        have h2 := h1.next hI
        have hs2 := hs1'.trans (Same2.of_below hI (by have := h1.size; omega))
        have hwt := hw w2 h2.moved
        obtain ⟨d8, _⟩ := h2.one (b := g + 1) (.head _)
        clear d7 c1 x0 x1 p0 p1 q0 q1 hrow h1 hs1' hI
        refine NoPanic.normal ?_
        gi_wp2
        refine dir_round hmx (by kernel_rfl) (fun _ _ h => h) 4 [[], [], [(38, 1)], [(37, 0), (39, 2)], [(40, 3)]] [(37, 0), (38, 1), (39, 2), (40, 3)] [
            (fun v _ => v = .int .u64 (mk bo)),
            (fun v _ => v = .int .i64 x),
            (fun v _ => v = .int .u64 (mk (decide (x < 0)))),
            (fun v _ => v = .int .u64 (bits .or .u64 (mk bo) (mk (decide (x < 0)))))
          ] (by kernel_rfl) (by kernel_rfl) (by kernel_rfl) (by decide) ⟨dstab_eq, dstab_eq, dstab_eq, dstab_eq, trivial⟩ ?steps ?fin
        case steps =>
          refine ⟨?_, ?_, ?_, ?_, trivial⟩
          · intro vs g w2 hI hF hR K hK
            simp only [Facts, fill, Act.put, z1, z2, z3, z4, z5, Nat.reduceAdd] at hF hR hK ⊢
            have k0 := (hI.cell (lt_of_cell d8)).trans d8
            go_simp
            exact hK _ () _ hI (Below.refl _ _) rfl
          · intro vs g w2 hI hF hR K hK
            simp only [Facts, fill, Act.put, z1, z2, z3, z4, z5, Nat.reduceAdd] at hF hR hK ⊢
            go_simp
            exact hK _ () _ hI (Below.refl _ _) rfl
          · intro vs g w2 hI hF hR K hK
            simp only [Facts, fill, Act.put, z1, z2, z3, z4, z5, Nat.reduceAdd] at hF hR hK ⊢
            obtain ⟨r1, -⟩ := hR
            generalize vs 1 = x1 at *
            subst r1
            go_simp
            refine (negative_b x Sx _ (hwt.below hI)).mono ?_
            rintro e w3 ⟨rfl, hb⟩
            exact hK _ () _ (hI.trans (hb.mono hI.size)) hb rfl
          · intro vs g w2 hI hF hR K hK
            simp only [Facts, fill, Act.put, z1, z2, z3, z4, z5, Nat.reduceAdd] at hF hR hK ⊢
            obtain ⟨r0, r2, -⟩ := hR
            generalize vs 0 = x0, vs 2 = x2 at *
            subst r0 r2
            go_simp
            exact hK _ () _ hI (Below.refl _ _) rfl
        case fin =>
          intro vs w2 hI hR
          have r3 := hR 3 (by decide)
          simp only [fill, Act.put, z1, z2, z3, z4, z5] at r3 ⊢
          clear hR
          generalize vs 3 = x3 at *
          subst r3
          have h4 := h2.next hI
          obtain ⟨u0, u1⟩ := h4.one (b := g + 1) (.head _)
          refine wpOps_step rfl rfl ?_
          go_simp
          clear u0 u1
          have h5 := h4.set (by simp; omega) (.int .u64 (bits .or .u64 (mk bo) (mk (decide (x < 0)))))
          have hs5 := (hs2.trans (Same2.of_below hI (by have := h2.size; omega))).trans (same2_set (W := w2) (k := g + 1) (x := .int .u64 (bits .or .u64 (mk bo) (mk (decide (x < 0))))) (by omega) (by omega))
          rw [HO1.out] at h5 hs5 ⊢
          generalize w2.setCell ⟨g + 1, 0, none⟩ (.int .u64 (mk (outB l p (k + 1)))) = w5 at h5 hs5 ⊢
          have h6 := h5.sub (bs' := [(g + 1 + 1, .cells #[.int .u64 (mk bd)] 64), (g + 1, .cells #[.int .u64 (mk (outB l p (k + 1)))] 64), (g, .cells #[.int .i64 s] 2), (w.heap.size, .cells #[.pointer tp] 26), (w.heap.size + 1, .cells #[.slice (some ⟨b, o, none⟩) n c] 22), (w.heap.size + 1 + 1, .cells #[.int .i64 p.x, .int .i64 p.y] 24), (g + 1 + 1 + 1, .cells #[.slice (some ⟨b, o, none⟩) n c] 22)]) (by simp)
          have hwt := hw w5 h6.moved
          obtain ⟨d9, _⟩ := h6.one (b := g + 1 + 1) (.head _)
          clear d8 h4 h5 h2 hs2 hI
          refine NoPanic.normal ?_
          gi_wp2
          refine dir_round hmx (by kernel_rfl) (fun _ _ h => h) 5 [[], [], [(42, 1)], [(43, 2)], [(41, 0), (44, 3)], [(45, 4)]] [(41, 0), (42, 1), (43, 2), (44, 3), (45, 4)] [
              (fun v _ => v = .int .u64 (mk bd)),
              (fun v _ => v = .int .i64 x),
              (fun v _ => v = .int .u64 (IntKind.u64.wrap x)),
              (fun v _ => v = .int .u64 (mk (decide (x = 0)))),
              (fun v _ => v = .int .u64 (bits .or .u64 (mk bd) (mk (decide (x = 0)))))
            ] (by kernel_rfl) (by kernel_rfl) (by kernel_rfl) (by decide) ⟨dstab_eq, dstab_eq, dstab_eq, dstab_eq, dstab_eq, trivial⟩ ?steps ?fin
          case steps =>
            refine ⟨?_, ?_, ?_, ?_, ?_, trivial⟩
            · intro vs g w2 hI hF hR K hK
              simp only [Facts, fill, Act.put, z1, z2, z3, z4, z5, Nat.reduceAdd] at hF hR hK ⊢
              have k0 := (hI.cell (lt_of_cell d9)).trans d9
              go_simp
              exact hK _ () _ hI (Below.refl _ _) rfl
            · intro vs g w2 hI hF hR K hK
              simp only [Facts, fill, Act.put, z1, z2, z3, z4, z5, Nat.reduceAdd] at hF hR hK ⊢
              go_simp
              exact hK _ () _ hI (Below.refl _ _) rfl
            · intro vs g w2 hI hF hR K hK
              simp only [Facts, fill, Act.put, z1, z2, z3, z4, z5, Nat.reduceAdd] at hF hR hK ⊢
              obtain ⟨r1, -⟩ := hR
              generalize vs 1 = x1 at *
              subst r1
              go_simp
              exact hK _ () _ hI (Below.refl _ _) rfl
            · intro vs g w2 hI hF hR K hK
              simp only [Facts, fill, Act.put, z1, z2, z3, z4, z5, Nat.reduceAdd] at hF hR hK ⊢
              obtain ⟨r2, -⟩ := hR
              generalize vs 2 = x2 at *
              subst r2
              go_simp
              refine (zero_x x hx1 _ (hwt.below hI)).mono ?_
              rintro e w3 ⟨rfl, hb⟩
              exact hK _ () _ (hI.trans (hb.mono hI.size)) hb rfl
            · intro vs g w2 hI hF hR K hK
              simp only [Facts, fill, Act.put, z1, z2, z3, z4, z5, Nat.reduceAdd] at hF hR hK ⊢
              obtain ⟨r0, r3, -⟩ := hR
              generalize vs 0 = x0, vs 3 = x3 at *
              subst r0 r3
              go_simp
              exact hK _ () _ hI (Below.refl _ _) rfl
          case fin =>
            intro vs w2 hI hR
            have r4 := hR 4 (by decide)
            simp only [fill, Act.put, z1, z2, z3, z4, z5] at r4 ⊢
            clear hR
            generalize vs 4 = x4 at *
            subst r4
            have h7 := h6.next hI
            obtain ⟨u0, u1⟩ := h7.one (b := g + 1 + 1) (.head _)
            refine wpOps_step rfl rfl ?_
            go_simp
            clear u0 u1
            have h8 := h7.set (by simp; omega) (.int .u64 (bits .or .u64 (mk bd) (mk (decide (x = 0)))))
            have hs8 := (hs5.trans (Same2.of_below hI (by have := h6.size; omega))).trans (same2_set (W := w2) (k := g + 1 + 1) (x := .int .u64 (bits .or .u64 (mk bd) (mk (decide (x = 0))))) (by omega) (by omega))
            rw [HB1.out] at h8 hs8 ⊢
            exact ⟨hs8, h8.sub (by simp)⟩
    case done =>
      rintro W h hK
      obtain ⟨z1, _⟩ := h.one (b := g + 1) (.head _)
      obtain ⟨z2, _⟩ := h.one (b := g + 1 + 1) (.tail _ (.head _))
      have hwt := hw W h.moved
      obtain ⟨x1, hx1⟩ : ∃ x1, x1 = mk (outB l p n) := ⟨_, rfl⟩
      obtain ⟨x2, hx2⟩ : ∃ x2, x2 = mk (bdB l p n) := ⟨_, rfl⟩
      have hU1 : U x1 := by rw [hx1]; exact U_mkB _
      have hU2 : U x2 := by rw [hx2]; exact U_mkB _
      rw [← hx1] at z1
      rw [← hx2] at z2
      have HX := Lib.hid (show sgn3 x1 x2 = r by rw [hx1, hx2]; exact HR.out)
      clear hx1 hx2
      gi_wp2_with (fail)
      refine ⟨trivial, (callsIn_wide.2 (sign_any x1 x2 hU1 hU2 W hwt)).mono ?_⟩
      rintro e w9 ⟨rfl, z, rfl⟩
      rw [HX.out]
      rw [hsz3] at hK
      have hK2 : (W.drewN z).heap[g + 4]? = some (.deferred (some [])) := hK
      have h9 : Lp w T (.pointer tp) (addT (.pointer tp) evs (evR 5 n)) (g + 6) [(g + 1, .cells #[.int .u64 (mk (outB l p n))] 64), (g + 1 + 1, .cells #[.int .u64 (mk (bdB l p n))] 64), (g, .cells #[.int .i64 s] 2), (w.heap.size, .cells #[.pointer tp] 26), (w.heap.size + 1, .cells #[.slice (some ⟨b, o, none⟩) n c] 22), (w.heap.size + 1 + 1, .cells #[.int .i64 p.x, .int .i64 p.y] 24), (g + 1 + 1 + 1, .cells #[.slice (some ⟨b, o, none⟩) n c] 22)] (W.drewN z) := h.next (below_drewN' (Below.refl _ _) z)
      gi_wp2
      refine ⟨by simp, .inl ⟨_, _, rfl, run_takeDeferred hK2, ?_⟩⟩
      have h10 := h9.put (l := g + 4) (by omega) (by omega) (by simp; omega) (.deferred none)
      exact ⟨_, results_tmp rfl _ _ _, rfl, by rw [HE.out]; exact h10.out, h10.moved⟩
    case stop =>
      rintro c W h
      exact h.elim
end Go.Proofs.YthmkllpdkcmccaaGreatDoor
namespace Go.Proofs.YthmkllpdkcmccaaGreatDoor

section
variable {P : Program} {b : Frame} {a : Act} {k : List Item} {cs : List Frame} {w : World} {F : Fence} {n : Nat} {Q : Exit → Act → World → Prop}
theorem stepR_scope {c : Code} : step P (lone (b.atR a (.code (.scope c) :: k)) cs w) = .next (lone (b.atR a (.code c :: .inScope c :: k)) cs w) :=
  step_lone_go (by simp [stepG, stepG.exec, Frame.atR])
theorem stepR_inScope {c : Code} : step P (lone (b.atR a (.inScope c :: k)) cs w) = .next (lone (b.atR a k) cs w) :=
  step_lone_go (by simp [stepG, stepG.exec, Frame.atR])
theorem wpIn_scope {c : Code} (h : c.wpIn F n P (Exit.noGoto Q) a w) : (Code.scope c).wpIn F n P Q a w := by
  intro b k cs hro hb hr
  have h0 : (lone (b.atR a (.code (.scope c) :: k)) cs w).fenced P F := fenced_calm hb hr rfl
  obtain ⟨e, a₁, w₁, hq, harr⟩ := h b (.inScope c :: k) cs hro hb hr
  cases e with
  | normal => exact ⟨.normal, a₁, w₁, hq, .head h0 stepR_scope (StepsIn.trans harr (.one (fenced_calm hb hr rfl) stepR_inScope))⟩
  | exit id =>
    have hx : exitTo id (.inScope c :: k) = exitTo id k := by simp [exitTo]
    exact ⟨.exit id, a₁, w₁, hq, fun k' hk => .head h0 stepR_scope (harr.1 k' (by rw [hx]; exact hk)),
      fun hr' hk => let ⟨k₁, h1, h2⟩ := harr.2 hr' (by rw [hx]; exact hk); ⟨k₁, h1, .head h0 stepR_scope h2⟩⟩
  | goto l => exact hq.elim
  | ret => exact ⟨_, a₁, w₁, hq, .of_steps (.one h0 stepR_scope) harr⟩
  | panic ch => exact ⟨_, a₁, w₁, hq, .of_steps (.one h0 stepR_scope) harr⟩
  | outgrown => exact ⟨_, a₁, w₁, hq, .of_steps (.one h0 stepR_scope) harr⟩
end
end Go.Proofs.YthmkllpdkcmccaaGreatDoor
namespace Go.Proofs.YthmkllpdkcmccaaGreatDoor
open Go.RowKit Go.Maps Go.Shelf
set_option maxRecDepth 100000
set_option linter.unusedVariables false
set_option linter.unusedSimpArgs false
attribute [local go_sem] Oper.semAt_some

/-- What is known when the edges below i have been seen, and beside edge i the vertices below j. -/
def seen (l : List Pt) (s : Int) (i j : Nat) (z : Bool) : Prop := z = true ↔ s ≠ 0 ∧ goodTo l s i ∧ rowTo l s i j
theorem equal_x (x y : Int) (hx : x = -1 ∨ x = 0 ∨ x = 1) (hy : y = -1 ∨ y = 0 ∨ y = 1) (w : World) (hw : Wts w) : Calls Tryz.prog 47 #[.int .u64 (IntKind.u64.wrap x), .int .u64 (IntKind.u64.wrap y)] w fun e w' => e = .returned (.int .u64 (mk (decide (x = y)))) ∧ Below w.heap.size w w' := by
  refine (equal_b _ _ (wrap_sgn hx).1 (wrap_sgn hy).1 w hw).mono ?_
  rintro e w' ⟨rfl, hb⟩
  exact ⟨by rw [decide_eq_decide.2 (wrap_inj hx hy)], hb⟩
theorem seen_start {l : List Pt} {s : Int} : seen l s 0 0 (s != 0) := by
  unfold seen
  rw [bne_iff_ne]
  exact ⟨fun h => ⟨h, goodTo_zero _ _, rowTo_zero _ _ _⟩, fun h => h.1⟩
theorem seen_skip {l : List Pt} {s : Int} {i j : Nat} {z : Bool} (h : seen l s i j z) (hj : j = i ∨ j = nx l.length i) : seen l s i (j + 1) z :=
  h.trans ⟨fun ⟨a, b, c⟩ => ⟨a, b, rowTo_skip c hj⟩, fun ⟨a, b, c⟩ => ⟨a, b, fun k h1 h2 h3 => c k (by omega) h2 h3⟩⟩
theorem seen_succ {l : List Pt} {s x : Int} {i j : Nat} {z : Bool} (h : seen l s i j z) (h1 : j ≠ i) (h2 : j ≠ nx l.length i) (hx : side l i (Go.Proofs.YthmkllpdkcmccaaGreatDoor.at_ l j) = x) : seen l s i (j + 1) (z && decide (x = s)) := by
  unfold seen at *
  rw [Bool.and_eq_true, h, decide_eq_true_eq]
  exact ⟨fun ⟨⟨a, b, c⟩, d⟩ => ⟨a, b, rowTo_succ c (hx.trans d)⟩, fun ⟨a, b, c⟩ => ⟨⟨a, b, fun k e1 e2 e3 => c k (by omega) e2 e3⟩, hx ▸ c j (by omega) h1 h2⟩⟩
theorem seen_row {l : List Pt} {s : Int} {i : Nat} {z : Bool} (h : seen l s i l.length z) : seen l s (i + 1) 0 z :=
  h.trans ⟨fun ⟨a, b, c⟩ => ⟨a, goodTo_succ b c, rowTo_zero _ _ _⟩, fun ⟨a, b, _⟩ => ⟨a, fun k hk => b k (by omega), b i (by omega)⟩⟩
theorem seen_done {l : List Pt} {s : Int} {z : Bool} (hp : isP l = true) (hs : orP l = s) (h : seen l s l.length 0 z) : validP l = z := by
  unfold seen at h
  rw [Bool.eq_iff_iff, h]
  unfold validP
  rw [hp, hs, Bool.true_and, Bool.and_eq_true, decide_eq_true_eq, decide_eq_true_eq]
  exact ⟨fun ⟨a, b⟩ => ⟨a, fun i hi j hj h1 h2 => b i hi j hj h1 h2, rowTo_zero _ _ _⟩, fun ⟨a, b, _⟩ => ⟨a, fun i hi j hj h1 h2 => b i hi j hj h1 h2⟩⟩
theorem seen_none {l : List Pt} {s : Int} {z : Bool} (hp : isP l = false) (hs : orP l = s) (h : seen l s 0 0 z) : validP l = z := by
  have h0 : s = 0 := by rw [← hs]; exact orP_no_ hp
  have hz : z = false := by
    cases z
    · rfl
    · exact absurd h0 (h.1 rfl).1
  rw [hz]; unfold validP; rw [hp]; rfl
theorem and_z (a b : Bool) : bits .and .u64 (mk a) (mk b) = mk (a && b) := mk_and a b
def evPv (n i j : Nat) : List Ev := validB n i ++ otherE n i j
theorem evPv_zero (n i : Nat) : evPv n i 0 = validB n i := by unfold evPv; rw [show otherE n i 0 = [] from rfl, List.append_nil]
theorem evPv_skip {n i j : Nat} (h : j = i ∨ j = nx n i) : evPv n i (j + 1) = evPv n i j := by unfold evPv; rw [otherE_succ, if_pos h, List.append_nil]
theorem evPv_add {n i j : Nat} (h1 : j ≠ i) (h2 : j ≠ nx n i) : evPv n i (j + 1) = evPv n i j ++ [⟨4, i, j⟩] := by unfold evPv; rw [otherE_succ, if_neg (by omega), List.append_assoc]
theorem evPv_row (n i : Nat) : evPv n i n = evPv n (i + 1) 0 := by rw [evPv_zero, validB_succ]; rfl
theorem evPv_len {n i j : Nat} (hn : n ≤ 64) (hi : i ≤ n) (hj : j ≤ n) : (evPv n i j).length ≤ 8192 := by
  have h1 := validB_len n i
  have h2 := otherE_len n i j
  have h3 : i * n ≤ 64 * 64 := Nat.mul_le_mul (by omega) hn
  unfold evPv
  rw [List.length_append]; omega
set_option maxHeartbeats 4000000 in
theorem polyValid_c (tv : Value) (evs : List Ev) (T Q : Nat → Prop) (A : Option Addr) (n c : Nat) (l : List Pt) (r : Bool) (w : World) (hw : ∀ W, Moved T w W → Wts W) (ht : TapeO w T tv evs) (he : evs.length ≤ 990000) (ha : RowR w Q 2 ptC A l) (hQT : ∀ b, Q b → ¬ T b) (hn : n = l.length) (hl : n ≤ 1000000) (hS : SsP l) (hr : validP l = r) :
    Calls Tryz.prog 22 #[tv, .slice A n c] w fun e w' => e = .returned (.int .u64 (mk r)) ∧ TapeO w' (fun g => T g ∨ w.heap.size ≤ g) tv (addT tv evs (validE n)) ∧ Moved T w w' := by
  have HN := Lib.hid hn
  obtain ⟨tp, rfl⟩ : ∃ tp, tv = .pointer tp := by rcases ht with ⟨rfl, _⟩ | ⟨tb, rfl, _⟩ <;> exact ⟨_, rfl⟩
  obtain ⟨os, hos⟩ : ∃ os : List Obj, os = [.cells #[.pointer tp] 26, .cells #[.slice A n c] 22] := ⟨_, rfl⟩
  obtain ⟨W0, hW0⟩ : ∃ W0, W0 = allocs w os := ⟨_, rfl⟩
  have hsz : W0.heap.size = w.heap.size + 2 := by rw [hW0, allocs_size, hos]; rfl
  have hbw : Below w.heap.size w W0 := by rw [hW0]; exact allocs_below os w
  have a0 : W0.heap[w.heap.size]? = some (.cells #[.pointer tp] 26) := by have := allocs_at os w 0 (by rw [hos]; simp); rw [hW0]; rw [hos] at this ⊢; exact this
  have a1 : W0.heap[w.heap.size + 1]? = some (.cells #[.slice A n c] 22) := by have := allocs_at os w 1 (by rw [hos]; simp); rw [hW0]; rw [hos] at this ⊢; exact this
  have HW := Lib.hid (show allocs w [.cells #[.pointer tp] 26, .cells #[.slice A n c] 22] = W0 by rw [hW0, hos])
  clear hW0 hos hn
  obtain ⟨s, hs⟩ : ∃ s, orP l = s := ⟨_, rfl⟩
  have HS := Lib.hid hs
  have hs1 : s = -1 ∨ s = 0 ∨ s = 1 := by rw [← hs]; exact or_in l
  have hs2 : -1 ≤ s ∧ s ≤ 1 := by omega
  have HR := Lib.hid hr
  clear hs hr
  refine (callsIn_wide (n := 9)).1 ?_
  refine callsIn_of_wp_marks Tryz.func22 rfl trivial ?_ rfl
  simp only [Tryz.ntmps22, List.size_toArray, List.length_cons, List.length_nil, Nat.reduceAdd, Nat.reduceSub, Array.replicate_succ, Array.replicate_zero, List.push_toArray, List.append_toArray, List.nil_append, List.cons_append]
  gi_wp2_with (fail)
  refine ⟨trivial, ?_⟩
  change CallsIn _ _ _ _ _ (allocs w [.cells #[.pointer tp] 26, .cells #[.slice A n c] 22]) _
  rw [HW.out]
  refine (callsIn_wide.2 (polyOr_c A n c l s _ W0 (hw W0 (.of_below hbw)) (ha.next hbw) HN.out hl hS HS.out)).mono ?_
  rintro e w1 ⟨rfl, hb1⟩
  obtain ⟨g, hg⟩ : ∃ g, g = w1.heap.size := ⟨_, rfl⟩
  have hgs : w.heap.size + 2 ≤ g := by have := hb1.size; omega
  have b0 := (hb1.block _ (by omega)).trans a0
  have b1 := (hb1.block _ (by omega)).trans a1
  obtain ⟨W2, hW2⟩ : ∃ W2, W2 = w1.alloc (.cells #[.int .u64 (IntKind.u64.wrap s)] 64) := ⟨_, rfl⟩
  have hsz2 : W2.heap.size = g + 1 := by rw [hW2, World.size_alloc, hg]
  have hb2 : Below g w1 W2 := by rw [hW2, hg]; exact (Below.refl _ _).alloc (Nat.le_refl _) _
  have d0 : W2.heap[g]? = some (.cells #[.int .u64 (IntKind.u64.wrap s)] 64) := by rw [hW2, hg]; exact heap_alloc_new _ _
  have hbW2 : Below w.heap.size w W2 := hbw.trans ((hb1.mono (by omega)).trans (hb2.mono (by omega)))
  have HW2 := Lib.hid hW2.symm
  have HG := Lib.hid hg
  clear hW2 hg
  gi_wp2_with (fail)
  refine ⟨trivial, ?_⟩
  rw [HW2.out]
  refine (callsIn_wide.2 (zero_x s hs2 W2 (hw W2 (.of_below hbW2)))).mono ?_
  rintro e w4 ⟨rfl, hb4⟩
  have e0 := (hb4.block _ (by omega)).trans ((hb2.block _ (by omega)).trans b0)
  have e1 := (hb4.block _ (by omega)).trans ((hb2.block _ (by omega)).trans b1)
  have e2 := (hb4.block _ (by omega)).trans d0
  obtain ⟨z0, hz0⟩ : ∃ z0, z0 = (s != 0) := ⟨_, rfl⟩
  have hx0 : bits .xor .u64 IntKind.u64.max (mk (decide (s = 0))) = mk z0 := by
    have h : (!decide (s = 0)) = (s != 0) := by
      by_cases e : s = 0
      · rw [e]; rfl
      · rw [decide_eq_false e, (bne_iff_ne).2 e]; rfl
    rw [hz0, show IntKind.u64.max = 18446744073709551615 from rfl, xor_mk, h]
  have HZ := Lib.hid hz0
  clear hz0
  obtain ⟨V, hV⟩ : ∃ V, V = w4.alloc (.cells #[.int .u64 (mk z0)] 64) := ⟨_, rfl⟩
  obtain ⟨m, hm⟩ : ∃ m, m = w4.heap.size := ⟨_, rfl⟩
  have hgm : g + 1 ≤ m := by have := hb4.size; omega
  have hszV : V.heap.size = m + 1 := by rw [hV, World.size_alloc, hm]
  have hbV : Below m w4 V := by rw [hV, hm]; exact (Below.refl _ _).alloc (Nat.le_refl _) _
  have f0 := (hbV.block _ (by omega)).trans e0
  have f1 := (hbV.block _ (by omega)).trans e1
  have f2 := (hbV.block _ (by omega)).trans e2
  have f3 : V.heap[m]? = some (.cells #[.int .u64 (mk z0)] 64) := by rw [hV, hm]; exact heap_alloc_new _ _
  have c1' : (w4.alloc (.cells #[.int .u64 (mk z0)] 64)).cell? ⟨w.heap.size + 1, 0, none⟩ = some (.slice A n c) := by rw [← hV]; exact (cells_one f1).1
  have hbwV : Below w.heap.size w V := hbW2.trans ((hb4.mono (by omega)).trans (hbV.mono (by omega)))
  obtain ⟨W5, hW5⟩ : ∃ W5, W5 = V.alloc (.cells #[.slice A n c] 22) := ⟨_, rfl⟩
  have hsz5 : W5.heap.size = m + 2 := by rw [hW5, World.size_alloc, hszV]
  have hb5 : Below V.heap.size V W5 := by rw [hW5]; exact (Below.refl _ _).alloc (Nat.le_refl _) _
  have k0 := (hb5.block _ (by omega)).trans f0
  have k1 := (hb5.block _ (by omega)).trans f1
  have k2 := (hb5.block _ (by omega)).trans f2
  have k3 := (hb5.block _ (by omega)).trans f3
  have k4 : W5.heap[m + 1]? = some (.cells #[.slice A n c] 22) := by rw [hW5]; have := heap_alloc_new V (.cells #[.slice A n c] 22); rwa [hszV] at this
  have hbW5 : Below w.heap.size w W5 := hbwV.trans (hb5.mono (by omega))
  have HV := Lib.hid hV.symm
  have HW5 := Lib.hid hW5.symm
  have HM := Lib.hid hm
  clear hV hW5 hm a0 a1 b0 b1 d0 e0 e1 e2 f0 f1 f2 f3
  rw [show (mk (decide (s = 0))) = mk (decide (s = 0)) from rfl]
  gi_wp2_with (fail)
  refine ⟨trivial, ?_⟩
  rw [HV.out]
  refine (callsIn_wide.2 (edges_any A n c V)).mono ?_
  rintro e w5 ⟨rfl, hw5⟩
  rw [HW5.out] at hw5
  obtain rfl := hw5.symm
  rw [hszV, ← HG.out, ← HM.out]
  clear c1' hx0
  gi_wp2_with (fail)
  obtain ⟨M, hM, hy⟩ : ∃ M, ((M = n ∧ okN n = true) ∨ (M = 0 ∧ okN n = false)) ∧ Yields Fence.wide 8 Tryz.prog 70 #[.pointer (some ⟨m + 1, 0, none⟩)] (fun k => #[.int .i64 k, .int .i64 (nx n k : Nat)]) M (fun _ W => PreE (m + 1) A n c W) (fun _ => Eq) Eq := by
    cases ho : okN n with
    | true => exact ⟨n, .inl ⟨rfl, rfl⟩, edges_yes (m + 1) A n c ho⟩
    | false => exact ⟨0, .inr ⟨rfl, rfl⟩, edges_no (m + 1) A n c hl ho⟩
  have HMM := Lib.hid hM
  clear hM
  refine wpIn_rangeFunc_y (F := Fence.wide) rfl (by decide) (gf := 70) rfl trivial (enters_of Tryz.func70 (by kernel_rfl) rfl)
    hy (fun _ => rfl)
    (fun k W => ∃ z, seen l s k 0 z ∧ Lp w T (.pointer tp) (addT (.pointer tp) evs (evPv n k 0)) (m + 4) [(m, .cells #[.int .u64 (mk z)] 64), (g, .cells #[.int .u64 (IntKind.u64.wrap s)] 64), (w.heap.size, .cells #[.pointer tp] 26), (w.heap.size + 1, .cells #[.slice A n c] 22), (m + 1, .cells #[.slice A n c] 22)] W)
    (fun k W => ∃ z, seen l s k 0 z ∧ Lp w T (.pointer tp) (addT (.pointer tp) evs (evPv n k 0)) (m + 4) [(m, .cells #[.int .u64 (mk z)] 64), (g, .cells #[.int .u64 (IntKind.u64.wrap s)] 64), (w.heap.size, .cells #[.pointer tp] 26), (w.heap.size + 1, .cells #[.slice A n c] 22), (m + 1, .cells #[.slice A n c] 22)] W)
    (fun _ _ => False) ?hI ?hIm (fun _ _ _ h => h) ?h0 ?hpre ?hst ?hfi (fun _ _ _ _ h => h.elim)
    (fun k => { tmps := #[.pointer tp, .slice A n c, .pointer (some ⟨w.heap.size, 0, none⟩), .pointer (some ⟨w.heap.size + 1, 0, none⟩), .int .u64 0, .pointer (some ⟨g, 0, none⟩), .pointer (some ⟨m, 0, none⟩), .int .i64 k, .int .i64 (nx n k : Nat), undef, undef, undef, .slice A n c, .int .i64 s, .int .u64 (IntKind.u64.wrap s), .int .u64 (IntKind.u64.wrap s), .int .u64 (mk (decide (s = 0))), .int .u64 (mk z0), .slice A n c, .func (.func 70) #[] #[.pointer (some ⟨m + 1, 0, none⟩)], .int .i64 k, .int .i64 (nx n k : Nat), undef, undef, undef, undef, undef, undef, undef, undef, undef, undef, undef, undef, undef, undef, undef, undef, undef, undef, undef, undef, undef, undef, undef, undef, undef, undef, undef, undef, undef, undef, undef, undef, undef, undef, undef, undef, undef, undef, undef], defers := [] }) ?assign ?body ?done ?stop
  case hI => exact fun k W o ⟨z, hz, h⟩ => ⟨z, hz, h.put (by omega) (by omega) (by simp; omega) o⟩
  case hIm => exact fun k W o ⟨z, hz, h⟩ => ⟨z, hz, h.put (by omega) (by omega) (by simp; omega) o⟩
  case h0 =>
    intro o'
    refine ⟨z0, by rw [HZ.out]; exact seen_start, Lp.start (by rw [evPv_zero, show validB n 0 = [] from rfl, addT_nil ht]; exact ht) hbW5 ?_ (by omega) _ _⟩
    simp only [List.forall_mem_cons, List.not_mem_nil, false_imp_iff, implies_true, and_true]
    exact ⟨⟨by omega, k3⟩, ⟨by omega, k2⟩, ⟨by omega, k0⟩, ⟨by omega, k1⟩, by omega, k4⟩
  case hpre => exact fun k W ⟨z, hz, h⟩ => h.at_ (.tail _ (.tail _ (.tail _ (.tail _ (.head _)))))
  case hst => exact fun k W W' _ _ h e => e ▸ ⟨Same2.refl _ _, h⟩
  case hfi => exact fun W W' _ h e => e ▸ ⟨Same2.refl _ _, h⟩
  case assign =>
    intro r' k W K hK
    gi_wp2
    exact hK
  case body =>
    rintro r' k W hkM hlt ⟨z, hz, h⟩
    have ho : okN n = true := by rcases HMM.out with h | h; exact h.2; omega
    have hMn : M = n := by rcases HMM.out with h | h; exact h.1; omega
    subst hMn
    obtain ⟨h3, h64⟩ := (okN_iff M).1 ho
    obtain ⟨b, o, rfl, hz1, hz2, hz3⟩ := ha.pt_ (k := 0) (by rw [← HN.out]; omega)
    obtain ⟨q, hq⟩ : ∃ q, q = nx M k := ⟨_, rfl⟩
    have hqn : q < M := by rw [hq]; exact nx_lt (by omega)
    have HQ := Lib.hid hq
    have HZ0 := Lib.hid hz
    rw [← hq]
    clear hq hz ho hz1 hz2 hz3 hy k0 k1 k2 k3 k4
    gi_wp2_with (fail)
    refine wpIn_scope ?_
    gi_wp2_with (fail)
    refine wpIn_label ?_
    obtain ⟨c1, _⟩ := h.one (b := w.heap.size + 1) (.tail _ (.tail _ (.tail _ (.head _))))
    gi_wp2
    gi_loopw [24] (fun jv wr => ∃ (j : Nat) (z : Bool), jv = .int .i64 j ∧ j ≤ M ∧ seen l s k j z ∧ Lp w T (.pointer tp) (addT (.pointer tp) evs (evPv M k j)) (m + 4) [(m, .cells #[.int .u64 (mk z)] 64), (g, .cells #[.int .u64 (IntKind.u64.wrap s)] 64), (w.heap.size, .cells #[.pointer tp] 26), (w.heap.size + 1, .cells #[.slice (some ⟨b, o, none⟩) M c] 22), (m + 1, .cells #[.slice (some ⟨b, o, none⟩) M c] 22)] wr ∧ Same2 W5.heap.size W wr) (fun jv _ => M - (intOf jv).toNat)
    case atStart => exact ⟨0, z, rfl, Nat.zero_le _, HZ0.out, h, Same2.refl _ _⟩
    case round =>
      clear c1 h HZ0 z
      obtain ⟨j, z, rfl, hj, hz, h, hsm⟩ := hrel
      have HSE := Lib.hid hz
      clear hz
      by_cases hgj : j < M
      · have hi0 : ∀ w : World, Sem.run Tryz.prog (Instr.index 97 (.agg #[.int .i64 k, .int .i64 q]) (.int .i64 0)) w = .ok (.int .i64 k) w := fun _ => by kernel_rfl
        have hi1 : ∀ w : World, Sem.run Tryz.prog (Instr.index 97 (.agg #[.int .i64 k, .int .i64 q]) (.int .i64 1)) w = .ok (.int .i64 q) w := fun _ => by kernel_rfl
        gi_wp2
        gi_loopw [30] (fun iv wr' => wr' = wr ∧ (iv = .int .i64 0 ∨ (iv = .int .i64 1 ∧ j ≠ k) ∨ (iv = .int .i64 2 ∧ j ≠ k ∧ j ≠ q))) (fun iv _ => 2 - (intOf iv).toNat)
        case atStart => exact ⟨rfl, .inl rfl⟩
        case round =>
          obtain ⟨rfl, rfl | ⟨rfl, e1⟩ | ⟨rfl, e1, e2⟩⟩ := hrel
          · by_cases e1 : j = k
            · have d1 : ((j : Int) == (k : Int)) = true := by rw [beq_iff_eq]; omega
              have HV1 := Lib.hid (evPv_skip (n := M) (i := k) (j := j) (.inl e1))
              have HS1 := Lib.hid (seen_skip HSE.out (.inl e1))
              clear e1
              gi_wp2
              go_roundw
              case rel => exact ⟨j + 1, z, by go_num, hgj, HS1.out, by rw [HV1.out]; exact h, hsm⟩
              case measure => simp [intOf]; omega
            · have d1 : ((j : Int) == (k : Int)) = false := by rw [beq_eq_false_iff_ne]; omega
              gi_wp2
              go_roundw
              case rel => exact ⟨trivial, .inr (.inl ⟨rfl, e1⟩)⟩
              case measure => simp [intOf]
          · by_cases e2 : j = q
            · have d1 : ((j : Int) == (q : Int)) = true := by rw [beq_iff_eq]; omega
              have HV1 := Lib.hid (evPv_skip (n := M) (i := k) (j := j) (.inr (by rw [e2, HQ.out])))
              have HS1 := Lib.hid (seen_skip HSE.out (.inr (by rw [e2, HQ.out, HN.out])))
              clear e1 e2
              gi_wp2
              go_roundw
              case rel => exact ⟨j + 1, z, by go_num, hgj, HS1.out, by rw [HV1.out]; exact h, hsm⟩
              case measure => simp [intOf]; omega
            · have d1 : ((j : Int) == (q : Int)) = false := by rw [beq_eq_false_iff_ne]; omega
              gi_wp2
              go_roundw
              case rel => exact ⟨trivial, .inr (.inr ⟨rfl, e1, e2⟩)⟩
              case measure => simp [intOf]
          · obtain ⟨t0, _⟩ := h.one (b := w.heap.size) (.tail _ (.tail _ (.head _)))
            have hel : (addT (.pointer tp) evs (evPv M k j)).length ≤ 1000000 := by
              have h1 := addT_le (.pointer tp) evs (evPv M k j)
              have h2 := evPv_len (n := M) (i := k) (j := j) h64 (by omega) hj
              omega
            have HEV := Lib.hid (evPv_add (n := M) e1 (by rw [← HQ.out]; exact e2))
            obtain ⟨x, hx⟩ : ∃ x, side l k (Go.Proofs.YthmkllpdkcmccaaGreatDoor.at_ l j) = x := ⟨_, rfl⟩
            have hx1 := side_in_ l k (Go.Proofs.YthmkllpdkcmccaaGreatDoor.at_ l j)
            rw [hx] at hx1
            have HS1 := Lib.hid (seen_succ HSE.out e1 (by rw [← HN.out, ← HQ.out]; exact e2) hx)
            have HX := Lib.hid (show sgnP (Go.Proofs.YthmkllpdkcmccaaGreatDoor.at_ l k) (Go.Proofs.YthmkllpdkcmccaaGreatDoor.at_ l q) (Go.Proofs.YthmkllpdkcmccaaGreatDoor.at_ l j) = x by rw [← hx, HQ.out, HN.out]; rfl)
            clear e1 e2 hx hi0 hi1
            gi_wp2_with (fail)
            refine ⟨trivial, (callsIn_wide.2 (noteO_any (.pointer tp) _ _ 4 k j _ h.tape hel (by decide) h.noted)).mono ?_⟩
            rintro e W1 ⟨rfl, ht1, hm1⟩
            rw [addT_assoc, ← HEV.out] at ht1
            have h1 := h.step hm1 ht1
            have hs1' : Same2 W5.heap.size W W1 := hsm.trans (hm1.same2 (by omega) (by omega) (by have := h.size; omega))
            clear h t0 hel ht1 hm1 hsm
            have hwt := hw W1 h1.moved
            obtain ⟨d6, _⟩ := h1.one (b := m) (.head _)
            obtain ⟨d5, _⟩ := h1.one (b := g) (.tail _ (.head _))
            obtain ⟨c1, _⟩ := h1.one (b := w.heap.size + 1) (.tail _ (.tail _ (.tail _ (.head _))))
            have hrow := h1.row ha (fun _ => by simp [ptC]) hQT
            obtain ⟨p0, p1⟩ := hrow.pt2 (k := k) (by rw [← HN.out]; exact hkM)
            obtain ⟨q0, q1⟩ := hrow.pt2 (k := q) (by rw [← HN.out]; exact hqn)
            obtain ⟨x0, x1⟩ := hrow.pt2 (k := j) (by rw [← HN.out]; exact hgj)
            have HP := Lib.hid (hS.ss (k := k) (by rw [← HN.out]; exact hkM))
            have HR1 := Lib.hid (hS.ss (k := q) (by rw [← HN.out]; exact hqn))
            have HY := Lib.hid (hS.ss (k := j) (by rw [← HN.out]; exact hgj))
            obtain ⟨P, hP⟩ : ∃ P, P = Go.Proofs.YthmkllpdkcmccaaGreatDoor.at_ l k := ⟨_, rfl⟩
            obtain ⟨R, hR⟩ : ∃ R, R = Go.Proofs.YthmkllpdkcmccaaGreatDoor.at_ l q := ⟨_, rfl⟩
            obtain ⟨Y, hY⟩ : ∃ Y, Y = Go.Proofs.YthmkllpdkcmccaaGreatDoor.at_ l j := ⟨_, rfl⟩
            rw [← hP] at p0 p1 HP HX
            rw [← hR] at q0 q1 HR1 HX
            rw [← hY] at x0 x1 HY HX
            have HA1 := Lib.hid (and_z z (decide (x = s)))
            have hmx : Tryz.prog.follows .mixedOrders = true := by kernel_rfl
            clear hP hR hY
            gi_wp2
            refine dir_round hmx (by kernel_rfl) (fun _ _ h => h) 18 [[], [], [], [(42, 1), (43, 2)], [(44, 3)], [], [], [(46, 5), (47, 6)], [(48, 7)], [], [], [(50, 9), (51, 10)], [(52, 11)], [(45, 4), (49, 8), (53, 12)], [(54, 13)], [], [(55, 14), (56, 15)], [(41, 0), (57, 16)], [(58, 17)]] [(41, 0), (42, 1), (43, 2), (44, 3), (45, 4), (46, 5), (47, 6), (48, 7), (49, 8), (50, 9), (51, 10), (52, 11), (53, 12), (54, 13), (55, 14), (56, 15), (57, 16), (58, 17)] [
                (fun v _ => v = .int .u64 (mk z)),
                (fun v _ => v = .slice (some ⟨b, o, none⟩) M c),
                (fun v _ => v = .int .i64 k),
                (fun v _ => v = .pointer (some ⟨b, (o + k * 2), none⟩)),
                (fun v _ => v = .agg #[.int .i64 P.x, .int .i64 P.y]),
                (fun v _ => v = .slice (some ⟨b, o, none⟩) M c),
                (fun v _ => v = .int .i64 q),
                (fun v _ => v = .pointer (some ⟨b, (o + q * 2), none⟩)),
                (fun v _ => v = .agg #[.int .i64 R.x, .int .i64 R.y]),
                (fun v _ => v = .slice (some ⟨b, o, none⟩) M c),
                (fun v _ => v = .int .i64 j),
                (fun v _ => v = .pointer (some ⟨b, (o + j * 2), none⟩)),
                (fun v _ => v = .agg #[.int .i64 Y.x, .int .i64 Y.y]),
                (fun v _ => v = .int .i64 x),
                (fun v _ => v = .int .u64 (IntKind.u64.wrap x)),
                (fun v _ => v = .int .u64 (IntKind.u64.wrap s)),
                (fun v _ => v = .int .u64 (mk (decide (x = s)))),
                (fun v _ => v = .int .u64 (bits .and .u64 (mk z) (mk (decide (x = s)))))
              ] (by kernel_rfl) (by kernel_rfl) (by kernel_rfl) (by decide) ⟨dstab_eq, dstab_eq, dstab_eq, dstab_eq, dstab_eq, dstab_eq, dstab_eq, dstab_eq, dstab_eq, dstab_eq, dstab_eq, dstab_eq, dstab_eq, dstab_eq, dstab_eq, dstab_eq, dstab_eq, dstab_eq, trivial⟩ ?steps ?fin
            case steps =>
              refine ⟨?_, ?_, ?_, ?_, ?_, ?_, ?_, ?_, ?_, ?_, ?_, ?_, ?_, ?_, ?_, ?_, ?_, ?_, trivial⟩
              · intro vs g w2 hI hF hR K hK
                simp only [Facts, fill, Act.put, z1, z2, z3, z4, z5, Nat.reduceAdd] at hF hR hK ⊢
                have k0 := (hI.cell (lt_of_cell d6)).trans d6
                go_simp
                exact hK _ () _ hI (Below.refl _ _) rfl
              · intro vs g w2 hI hF hR K hK
                simp only [Facts, fill, Act.put, z1, z2, z3, z4, z5, Nat.reduceAdd] at hF hR hK ⊢
                have k0 := (hI.cell (lt_of_cell c1)).trans c1
                go_simp
                exact hK _ () _ hI (Below.refl _ _) rfl
              · intro vs g w2 hI hF hR K hK
                simp only [Facts, fill, Act.put, z1, z2, z3, z4, z5, Nat.reduceAdd] at hF hR hK ⊢
                go_simp
                exact hK _ () _ hI (Below.refl _ _) rfl
              · intro vs g w2 hI hF hR K hK
                simp only [Facts, fill, Act.put, z1, z2, z3, z4, z5, Nat.reduceAdd] at hF hR hK ⊢
                obtain ⟨r1, r2, -⟩ := hR
                generalize vs 1 = x1, vs 2 = x2 at *
                subst r1 r2
                go_simp
                exact hK _ () _ hI (Below.refl _ _) rfl
              · intro vs g w2 hI hF hR K hK
                simp only [Facts, fill, Act.put, z1, z2, z3, z4, z5, Nat.reduceAdd] at hF hR hK ⊢
                obtain ⟨r3, -⟩ := hR
                generalize vs 3 = x3 at *
                subst r3
                have k0 := (hI.cell (lt_of_cell p0)).trans p0
                have k1 := (hI.cell (lt_of_cell p1)).trans p1
                go_simp
                exact hK _ () _ hI (Below.refl _ _) rfl
              · intro vs g w2 hI hF hR K hK
                simp only [Facts, fill, Act.put, z1, z2, z3, z4, z5, Nat.reduceAdd] at hF hR hK ⊢
                have k0 := (hI.cell (lt_of_cell c1)).trans c1
                go_simp
                exact hK _ () _ hI (Below.refl _ _) rfl
              · intro vs g w2 hI hF hR K hK
                simp only [Facts, fill, Act.put, z1, z2, z3, z4, z5, Nat.reduceAdd] at hF hR hK ⊢
                go_simp
                exact hK _ () _ hI (Below.refl _ _) rfl
              · intro vs g w2 hI hF hR K hK
                simp only [Facts, fill, Act.put, z1, z2, z3, z4, z5, Nat.reduceAdd] at hF hR hK ⊢
                obtain ⟨r5, r6, -⟩ := hR
                generalize vs 5 = x5, vs 6 = x6 at *
                subst r5 r6
                go_simp
                exact hK _ () _ hI (Below.refl _ _) rfl
              · intro vs g w2 hI hF hR K hK
                simp only [Facts, fill, Act.put, z1, z2, z3, z4, z5, Nat.reduceAdd] at hF hR hK ⊢
                obtain ⟨r7, -⟩ := hR
                generalize vs 7 = x7 at *
                subst r7
                have k0 := (hI.cell (lt_of_cell q0)).trans q0
                have k1 := (hI.cell (lt_of_cell q1)).trans q1
                go_simp
                exact hK _ () _ hI (Below.refl _ _) rfl
              · intro vs g w2 hI hF hR K hK
                simp only [Facts, fill, Act.put, z1, z2, z3, z4, z5, Nat.reduceAdd] at hF hR hK ⊢
                have k0 := (hI.cell (lt_of_cell c1)).trans c1
                go_simp
                exact hK _ () _ hI (Below.refl _ _) rfl
              · intro vs g w2 hI hF hR K hK
                simp only [Facts, fill, Act.put, z1, z2, z3, z4, z5, Nat.reduceAdd] at hF hR hK ⊢
                go_simp
                exact hK _ () _ hI (Below.refl _ _) rfl
              · intro vs g w2 hI hF hR K hK
                simp only [Facts, fill, Act.put, z1, z2, z3, z4, z5, Nat.reduceAdd] at hF hR hK ⊢
                obtain ⟨r9, r10, -⟩ := hR
                generalize vs 9 = x9, vs 10 = x10 at *
                subst r9 r10
                go_simp
                exact hK _ () _ hI (Below.refl _ _) rfl
              · intro vs g w2 hI hF hR K hK
                simp only [Facts, fill, Act.put, z1, z2, z3, z4, z5, Nat.reduceAdd] at hF hR hK ⊢
                obtain ⟨r11, -⟩ := hR
                generalize vs 11 = x11 at *
                subst r11
                have k0 := (hI.cell (lt_of_cell x0)).trans x0
                have k1 := (hI.cell (lt_of_cell x1)).trans x1
                go_simp
                exact hK _ () _ hI (Below.refl _ _) rfl
              · intro vs g w2 hI hF hR K hK
                simp only [Facts, fill, Act.put, z1, z2, z3, z4, z5, Nat.reduceAdd] at hF hR hK ⊢
                obtain ⟨r4, r8, r12, -⟩ := hR
                generalize vs 4 = x4, vs 8 = x8, vs 12 = x12 at *
                subst r4 r8 r12
                go_simp
                refine (orSign_d P R Y w2 (hwt.below hI) HP.out HR1.out HY.out x HX.out).mono ?_
                rintro e w3 ⟨rfl, hb⟩
                exact hK _ () _ (hI.trans (hb.mono hI.size)) hb rfl
              · intro vs g w2 hI hF hR K hK
                simp only [Facts, fill, Act.put, z1, z2, z3, z4, z5, Nat.reduceAdd] at hF hR hK ⊢
                obtain ⟨r13, -⟩ := hR
                generalize vs 13 = x13 at *
                subst r13
                go_simp
                exact hK _ () _ hI (Below.refl _ _) rfl
              · intro vs g w2 hI hF hR K hK
                simp only [Facts, fill, Act.put, z1, z2, z3, z4, z5, Nat.reduceAdd] at hF hR hK ⊢
                have k0 := (hI.cell (lt_of_cell d5)).trans d5
                go_simp
                exact hK _ () _ hI (Below.refl _ _) rfl
              · intro vs g w2 hI hF hR K hK
                simp only [Facts, fill, Act.put, z1, z2, z3, z4, z5, Nat.reduceAdd] at hF hR hK ⊢
                obtain ⟨r14, r15, -⟩ := hR
                generalize vs 14 = x14, vs 15 = x15 at *
                subst r14 r15
                go_simp
                refine (equal_x x s hx1 hs1 _ (hwt.below hI)).mono ?_
                rintro e w3 ⟨rfl, hb⟩
                exact hK _ () _ (hI.trans (hb.mono hI.size)) hb rfl
              · intro vs g w2 hI hF hR K hK
                simp only [Facts, fill, Act.put, z1, z2, z3, z4, z5, Nat.reduceAdd] at hF hR hK ⊢
                obtain ⟨r0, r16, -⟩ := hR
                generalize vs 0 = x0, vs 16 = x16 at *
                subst r0 r16
                go_simp
                exact hK _ () _ hI (Below.refl _ _) rfl
            case fin =>
              intro vs w2 hI hR
              have r17 := hR 17 (by decide)
              simp only [fill, Act.put, z1, z2, z3, z4, z5] at r17 ⊢
              clear hR
              generalize vs 17 = x17 at *
              subst r17
              have h4 := h1.next hI
              obtain ⟨u0, u1⟩ := h4.one (b := m) (.head _)
              refine wpOps_step rfl rfl ?_
              go_simp
              clear u0 u1
              have h5 := h4.set (by simp; omega) (.int .u64 (bits .and .u64 (mk z) (mk (decide (x = s)))))
              have hs5 := (hs1'.trans (Same2.of_below hI (by have := h1.size; omega))).trans (same2_set (W := w2) (k := m) (x := .int .u64 (bits .and .u64 (mk z) (mk (decide (x = s))))) (by omega) (by omega))
              rw [HA1.out] at h5 hs5 ⊢
              generalize w2.setCell ⟨m, 0, none⟩ (.int .u64 (mk (z && decide (x = s)))) = w5 at h5 hs5 ⊢
              clear d6 d5 c1 p0 p1 q0 q1 x0 x1 hrow h4 h1 hs1' hI
              refine NoPanic.normal ?_
              gi_wp2
              go_roundw
              case rel => exact ⟨j + 1, z && decide (x = s), by go_num, hgj, HS1.out, h5, hs5⟩
              case measure => simp [intOf]; omega
      · have HV1 := Lib.hid (show evPv M k j = evPv M (k + 1) 0 by rw [show j = M by omega]; exact evPv_row M k)
        have HS1 := Lib.hid (show seen l s (k + 1) 0 z by refine seen_row ?_; rw [← HN.out, ← show j = M by omega]; exact HSE.out)
        rw [HV1.out] at h
        gi_wp2
        exact ⟨hsm, z, HS1.out, h⟩
  case done =>
    rintro W ⟨z, hz, h⟩ hK
    have hv : z = r ∧ validE n = evPv n M 0 := by
      rcases HMM.out with ⟨e1, e2⟩ | ⟨e1, e2⟩
      · refine ⟨?_, by rw [e1, evPv_zero]; unfold validE; rw [if_pos e2]⟩
        rw [e1, HN.out] at hz
        rw [← HR.out]; exact (seen_done (by rw [← okN_isP, ← HN.out]; exact e2) HS.out hz).symm
      · refine ⟨?_, by rw [e1, evPv_zero]; unfold validE; rw [if_neg (by rw [e2]; simp)]; rfl⟩
        rw [e1] at hz
        rw [← HR.out]; exact (seen_none (by rw [← okN_isP, ← HN.out]; exact e2) HS.out hz).symm
    obtain ⟨rfl, hv2⟩ := hv
    rw [← hv2] at h
    obtain ⟨z1, _⟩ := h.one (b := m) (.head _)
    have h10 := Lib.hid (h.put (l := W5.heap.size) (by omega) (by omega) (by simp; omega) (.deferred none))
    clear h hv2 hz hy k0 k1 k2 k3 k4
    gi_wp2
    refine ⟨by simp, .inl ⟨_, _, rfl, run_takeDeferred hK, ?_⟩⟩
    exact ⟨_, results_tmp rfl _ _ _, rfl, h10.out.out, h10.out.moved⟩
  case stop =>
    rintro c W h
    exact h.elim
end Go.Proofs.YthmkllpdkcmccaaGreatDoor
namespace Go.Proofs.YthmkllpdkcmccaaGreatDoor
open Go.ChangeShapes Go.WideShapes Go.ChangeAt Go.RowKit

theorem U_of_wf {a : Int} (h : (Lit.int .u64 a).wf = true) : U a := by
  have := bounds_u64 h; unfold U; omega
theorem S_of_wf {a : Int} (h : (Lit.int .i64 a).wf = true) : S a := by
  have := bounds_i64 h; unfold S; omega
end Go.Proofs.YthmkllpdkcmccaaGreatDoor
namespace Go.Proofs.YthmkllpdkcmccaaGreatDoor
open Go.RowKit
set_option maxRecDepth 100000
set_option linter.unusedVariables false
set_option linter.unusedSimpArgs false

/-- Types made of integers, structs and arrays alone, whose parts leave no cell out. -/
def flatT (P : Program) : Nat → TypeId → Bool
  | 0, _ => false
  | n + 1, t => match P.underlying t with
    | some (.int _) => true
    | some (.struct fs) => fs.toList.all (fun f => flatT P n f.type) && (List.range (P.cellsOf t)).all fun j => (List.range fs.size).any fun i => match fs[i]? with | some f => decide (f.offset ≤ j ∧ j < f.offset + P.cellsOf f.type) | none => false
    | some (.array m e) => flatT P n e && (List.range (P.cellsOf t)).all fun j => (List.range m).any fun i => decide (i * P.cellsOf e ≤ j ∧ j < i * P.cellsOf e + P.cellsOf e)
    | _ => false

theorem chunk_at {α : Type} {cs cs' : List α} {a c j : Nat} (h : (cs.drop a).take c = (cs'.drop a).take c) (h1 : a ≤ j) (h2 : j < a + c) : cs[j]? = cs'[j]? := by
  have := congrArg (·[j - a]?) h
  simp only [List.getElem?_take, List.getElem?_drop] at this
  rw [if_pos (by omega), if_pos (by omega), show a + (j - a) = j by omega] at this
  exact this

theorem flat_unique {H : Type} {enc : TypeId × Value → H} {P : Program} {w : World} {base : Nat} {sp : Nat → Bool} {held : Bool} : ∀ (n : Nat) {fuel fuel' : Nat} {t : TypeId} {cs cs' : List Value} {D : DataW H} {p p' : List MemPlace},
    flatT P n t = true → DataW.trod enc P w base sp held fuel t cs = some (D, p) → DataW.trod enc P w base sp held fuel' t cs' = some (D, p') → cs = cs' := by
  intro n
  induction n with
  | zero => intro _ _ _ _ _ _ _ _ h; simp [flatT] at h
  | succ n ih =>
    intro fuel fuel' t cs cs' D p p' hf h h'
    unfold flatT at hf
    split at hf
    · rename_i k ht
      obtain ⟨x, rfl, hx, _⟩ := DataW.trod_int ht h
      obtain ⟨y, rfl, hy, _⟩ := DataW.trod_int ht h'
      injection hx with hx _
      injection hy with hy _
      rw [hx] at hy
      injection hy with hy
      injection hy with _ hy
      rw [hy]
    · rename_i fs ht
      simp only [Bool.and_eq_true, List.all_eq_true, List.any_eq_true, List.mem_range] at hf
      obtain ⟨hf1, hf2⟩ := hf
      obtain ⟨xs, m, rfl, hx, hl, hxl, hxs⟩ := DataW.trod_struct ht h
      obtain ⟨ys, m', rfl, hy, hl', hyl, hys⟩ := DataW.trod_struct ht h'
      injection hx with hx _
      injection hy with hy _
      rw [hx] at hy
      injection hy with hy
      apply List.ext_getElem?
      intro j
      by_cases hj : j < P.cellsOf t
      · obtain ⟨i, hi, hd⟩ := hf2 j hj
        have hif : fs[i]? = some fs[i] := Array.getElem?_eq_getElem hi
        rw [hif] at hd
        simp only [decide_eq_true_eq] at hd
        have e1 := hxs i _ hif
        have e2 := hys i _ hif
        have e3 := congrArg (·[i]?) hy
        simp only [List.getElem?_map] at e3
        rw [List.getElem?_eq_getElem (by omega)] at e1 e2
        rw [List.getElem?_eq_getElem (by omega), List.getElem?_eq_getElem (by omega)] at e3
        simp only [Option.map_some, Option.some.injEq] at e3
        have hm : fs[i] ∈ fs.toList := by simp
        exact chunk_at (ih (D := xs[i].1) (p := xs[i].2) (p' := ys[i].2) (hf1 _ hm) e1 (by rw [e2, e3])) hd.1 hd.2
      · rw [List.getElem?_eq_none (by omega), List.getElem?_eq_none (by omega)]
    · rename_i m0 e ht
      simp only [Bool.and_eq_true, List.all_eq_true, List.any_eq_true, List.mem_range, decide_eq_true_eq] at hf
      obtain ⟨hf1, hf2⟩ := hf
      obtain ⟨xs, m, rfl, hx, hl, hxl, hxs⟩ := DataW.trod_array ht h
      obtain ⟨ys, m', rfl, hy, hl', hyl, hys⟩ := DataW.trod_array ht h'
      injection hx with hx _
      injection hy with hy _
      rw [hx] at hy
      injection hy with hy
      apply List.ext_getElem?
      intro j
      by_cases hj : j < P.cellsOf t
      · obtain ⟨i, hi, hd⟩ := hf2 j hj
        have e1 := hxs i hi
        have e2 := hys i hi
        have e3 := congrArg (·[i]?) hy
        simp only [List.getElem?_map] at e3
        rw [List.getElem?_eq_getElem (by omega)] at e1 e2
        rw [List.getElem?_eq_getElem (by omega), List.getElem?_eq_getElem (by omega)] at e3
        simp only [Option.map_some, Option.some.injEq] at e3
        exact chunk_at (ih (D := xs[i].1) (p := xs[i].2) (p' := ys[i].2) hf1 e1 (by rw [e2, e3])) hd.1 hd.2
      · rw [List.getElem?_eq_none (by omega), List.getElem?_eq_none (by omega)]
    · cases hf

/-- From the row's condition to the cells: the table stands first on the list. -/
theorem flat_of_head {P : Program} {W : World} {name : String} {D : DataW Unit} {rest : List (String × DataW Unit)} {g n fuel : Nat} {t : TypeId} {cs0 : List Value} {p0 : List MemPlace}
    (hg : P.globalNamed name = some g) (hty : (P.globals[g]?).map (·.type) = some t) (hf : flatT P n t = true)
    (h0 : DataW.trod (fun _ => ()) P W 0 (fun _ => true) false fuel t cs0 = some (D, p0)) (h : laidMet P ((name, D) :: rest) W) : W.var? P name = some cs0.toArray := by
  obtain ⟨ps, ⟨g', t', cs, fuel, p, q, hg', ht', hvar, hd, _, _⟩, _⟩ := h
  obtain rfl := Option.some.inj (hg.symm.trans hg')
  obtain rfl := Option.some.inj (hty.symm.trans ht')
  rw [hvar, ← flat_unique n hf hd h0]
end Go.Proofs.YthmkllpdkcmccaaGreatDoor
namespace Go.Proofs.YthmkllpdkcmccaaGreatDoor
open Go.ChangeShapes Go.WideShapes Go.ChangeAt Go.RowKit

theorem own : ownKnob Tryz.prog.godebug = none := by kernel_rfl
theorem laidOut : laidOutB Tryz.prog = true := by kernel_rfl
def laidW : List (String × DataW Unit) := [("geofence/mask.weights", Rows.laid_geofence_mask_weights), ("geofence/codec.prescriptions", Rows.laid_geofence_codec_prescriptions)]
theorem door_met (os : Os) (args : Array Value) : laidMetH Tryz.prog laidW ((World.doorLaid Tryz.prog 29 os).forCall (fun _ _ => 0) ⟨#[], args, []⟩).memory :=
  laidMetH_of_parts3 (fuel := 8) (laidMet_of_run' 8 (by kernel_rfl) (by kernel_rfl)) (by kernel_rfl) (by kernel_rfl)
theorem wts_of_laid {W : World} (h : laidMetH Tryz.prog laidW W) : Wts W := by
  rw [MakeChecks.laidMetH_plain _ _ _ (by kernel_rfl)] at h
  have h0 : laidMet Tryz.prog [("geofence/mask.weights", Lib.tabData .u64 [9223372036854775808, 18446744073709551615]), ("geofence/codec.prescriptions", .agg [.agg [.lit (.int .i64 0), .lit (.int .i64 0)], .agg [.lit (.int .i64 3), .lit (.int .i64 2)], .agg [.lit (.int .i64 4), .lit (.int .i64 2)], .agg [.lit (.int .i64 1), .lit (.int .i64 3)], .agg [.lit (.int .i64 1), .lit (.int .i64 2)], .agg [.lit (.int .i64 0), .lit (.int .i64 1)]])] W := h
  have g0 : Tryz.prog.globalNamed "geofence/mask.weights" = some 0 := by kernel_rfl
  have T0 := Lib.tabIs_of_head g0 (t := 145) (by kernel_rfl) Tryz.underlying145 Tryz.underlying64 (by kernel_rfl) (by kernel_rfl) h0
  have h1 := laidMet.tail h0
  have g1 : Tryz.prog.globalNamed "geofence/codec.prescriptions" = some 1 := by kernel_rfl
  have T1 := flat_of_head (n := 6) (fuel := 6) (t := 154) (p0 := []) (cs0 := [.int .i64 0, .int .i64 0, .int .i64 3, .int .i64 2, .int .i64 4, .int .i64 2, .int .i64 1, .int .i64 3, .int .i64 1, .int .i64 2, .int .i64 0, .int .i64 1]) g1 (by kernel_rfl) (by kernel_rfl) (by kernel_rfl) h1
  refine ⟨⟨T0.cell g0 0 (by decide), T0.cell g0 1 (by decide)⟩, ?_⟩
  intro p hp
  simp only [seatTabs, List.mem_cons, List.not_mem_nil, or_false] at hp
  rcases hp with rfl
  · intro i v hv
    have hh := World.var?_cell g1 T1 i
    rw [hh]
    exact (List.getElem?_toArray ..).trans hv
end Go.Proofs.YthmkllpdkcmccaaGreatDoor
namespace Go.Proofs.YthmkllpdkcmccaaGreatDoor
open Go.RowKit Go.Maps
set_option maxRecDepth 100000
set_option linter.unusedVariables false
set_option linter.unusedSimpArgs false

end Go.Proofs.YthmkllpdkcmccaaGreatDoor
namespace Go.Proofs.YthmkllpdkcmccaaGreatDoor
open Go.RowKit
set_option maxRecDepth 100000
set_option linter.unusedVariables false
set_option linter.unusedSimpArgs false

/-- The lifted determinant of four points. -/
def lc (xa ya xb yb xc yc xd yd : Int) : Int :=
  (xa * xa + ya * ya) * det xb yb xc yc xd yd - (xb * xb + yb * yb) * det xa ya xc yc xd yd + ((xc * xc + yc * yc) * det xa ya xb yb xd yd - (xd * xd + yd * yd) * det xa ya xb yb xc yc)
/-- That of three vectors. -/
def lv (p q r s t u : Int) : Int := (p * p + q * q) * (r * u - s * t) - (r * r + s * s) * (p * u - q * t) + (t * t + u * u) * (p * s - q * r)
theorem lc_vec (xa ya xb yb xc yc xd yd : Int) : lc xa ya xb yb xc yc xd yd = lv (xa - xd) (ya - yd) (xb - xd) (yb - yd) (xc - xd) (yc - yd) := by unfold lc lv det; grind
theorem lv_bd {p q r s t u : Int} (hp : -18446744073709551615 ≤ p ∧ p ≤ 18446744073709551615) (hq : -18446744073709551615 ≤ q ∧ q ≤ 18446744073709551615) (hr : -18446744073709551615 ≤ r ∧ r ≤ 18446744073709551615) (hs : -18446744073709551615 ≤ s ∧ s ≤ 18446744073709551615) (ht : -18446744073709551615 ≤ t ∧ t ≤ 18446744073709551615) (hu : -18446744073709551615 ≤ u ∧ u ≤ 18446744073709551615) :
    (lv p q r s t u).natAbs ≤ 2 ^ 262 := by
  have sq : ∀ {a b : Int}, (-18446744073709551615 ≤ a ∧ a ≤ 18446744073709551615) → (-18446744073709551615 ≤ b ∧ b ≤ 18446744073709551615) → (a * a + b * b).natAbs ≤ 2 ^ 129 := fun ha hb => by
    have h1 := prod_bd ha ha
    have h2 := prod_bd hb hb
    omega
  have cr : ∀ {a b c d : Int}, (-18446744073709551615 ≤ a ∧ a ≤ 18446744073709551615) → (-18446744073709551615 ≤ b ∧ b ≤ 18446744073709551615) → (-18446744073709551615 ≤ c ∧ c ≤ 18446744073709551615) → (-18446744073709551615 ≤ d ∧ d ≤ 18446744073709551615) → (a * d - b * c).natAbs ≤ 2 ^ 129 := fun ha hb hc hd => by
    have h1 := prod_bd ha hd
    have h2 := prod_bd hb hc
    omega
  have m : ∀ {x y : Int}, x.natAbs ≤ 2 ^ 129 → y.natAbs ≤ 2 ^ 129 → (x * y).natAbs ≤ 2 ^ 258 := fun hx hy => by
    rw [Int.natAbs_mul]
    have := Nat.mul_le_mul hx hy
    omega
  have a1 := m (sq hp hq) (cr hr hs ht hu)
  have a2 := m (sq hr hs) (cr hp hq ht hu)
  have a3 := m (sq ht hu) (cr hp hq hr hs)
  unfold lv
  omega
theorem lc_fit {xa ya xb yb xc yc xd yd : Int} (h1 : S xa) (h2 : S ya) (h3 : S xb) (h4 : S yb) (h5 : S xc) (h6 : S yc) (h7 : S xd) (h8 : S yd) : Fit 5 (lc xa ya xb yb xc yc xd yd) := by
  have := lv_bd (diff_bd h1 h7) (diff_bd h2 h8) (diff_bd h3 h7) (diff_bd h4 h8) (diff_bd h5 h7) (diff_bd h6 h8)
  rw [← lc_vec] at this
  have e : M 5 = 2135987035920910082395021706169552114602704522356652769947041607822219725780640550022962086936576 := rfl
  unfold Fit
  omega
end Go.Proofs.YthmkllpdkcmccaaGreatDoor
namespace Go.Proofs.YthmkllpdkcmccaaGreatDoor
open Go.RowKit
set_option maxRecDepth 100000
set_option linter.unusedVariables false
set_option linter.unusedSimpArgs false

end Go.Proofs.YthmkllpdkcmccaaGreatDoor
namespace Go.Proofs.YthmkllpdkcmccaaGreatDoor
open Go.RowKit Go.Maps
set_option maxRecDepth 100000
set_option linter.unusedVariables false
set_option linter.unusedSimpArgs false

/-- The position of a point relative to the circle through three points. -/
def sideC (a b c d : Pt) : Int := (lc a.x a.y b.x b.y c.x c.y d.x d.y * det a.x a.y b.x b.y c.x c.y).sign
theorem sgn_det (a b c : Pt) : sgnP a b c = (det a.x a.y b.x b.y c.x c.y).sign := rfl
theorem sideC_in (a b c d : Pt) : sideC a b c d = -1 ∨ sideC a b c d = 0 ∨ sideC a b c d = 1 := by
  unfold sideC
  rcases Int.lt_trichotomy (lc a.x a.y b.x b.y c.x c.y d.x d.y * det a.x a.y b.x b.y c.x c.y) 0 with h | h | h
  · exact .inl (Int.sign_eq_neg_one_of_neg h)
  · rw [h]; exact .inr (.inl rfl)
  · exact .inr (.inr (Int.sign_eq_one_of_pos h))
/-- Discs. -/
def triS (l : List Pt) : Int := sgnP (at_ l 0) (at_ l 1) (at_ l 2)
/-- Validity, if the table of wanted orientations says c (0 is what the program's text lays there). -/
def validDw (c : Int) (l : List Pt) : Bool := l.length == 3 && triS l != c
def locD (l : List Pt) (p : Pt) : Int := if l.length = 3 then sideC (at_ l 0) (at_ l 1) (at_ l 2) p else -1
def validDE (n : Nat) : List Ev := if n = 3 then [⟨4, 0, 2⟩] else []
def locDE (n : Nat) : List Ev := if n = 3 then [⟨6, 0, 0⟩] else []
theorem validDw_no {c : Int} {l : List Pt} (h : ¬ l.length = 3) : validDw c l = false := by unfold validDw; rw [beq_eq_false_iff_ne.2 h]; rfl
theorem locD_no {l : List Pt} (h : ¬ l.length = 3) (p : Pt) : locD l p = -1 := by unfold locD; rw [if_neg h]
end Go.Proofs.YthmkllpdkcmccaaGreatDoor
namespace Go.Proofs.YthmkllpdkcmccaaGreatDoor
open Go.RowKit
set_option maxRecDepth 100000
set_option linter.unusedVariables false
set_option linter.unusedSimpArgs false

/-- A slice of slices, in memory. -/
structure PtLs (w : World) (b o : Nat) (Ls : List (Option Addr × Nat × List Pt)) : Prop where
  cell : ∀ j p, Ls[j]? = some p → w.cell? ⟨b, o + j, none⟩ = some (.slice p.1 p.2.2.length p.2.1)
  rows : ∀ p ∈ Ls, RowR w (fun _ => True) 2 ptC p.1 p.2.2 ∧ (p.1 = none → p.2.1 = 0)
theorem PtLs.next {w w' : World} {b o : Nat} {Ls : List (Option Addr × Nat × List Pt)} (h : PtLs w b o Ls) (hb : Below w.heap.size w w') : PtLs w' b o Ls :=
  ⟨fun j p hp => (hb.cell (p := ⟨b, o + j, none⟩) (lt_of_cell (h.cell j p hp))).trans (h.cell j p hp), fun p hp => ⟨(h.rows p hp).1.next hb, (h.rows p hp).2⟩⟩
end Go.Proofs.YthmkllpdkcmccaaGreatDoor
namespace Go.Proofs.YthmkllpdkcmccaaGreatDoor
open Go.RowKit Go.Lib
set_option maxRecDepth 100000
set_option linter.unusedVariables false
set_option linter.unusedSimpArgs false

/-- copy of elements of k cells. -/
theorem run_copy_k {P : Program} (w : World) (dT sT ty elem : TypeId) (k b o dLen dCap : Nat) (a : Addr) (sLen sCap : Nat) (cs : List Value) (m : Nat)
    (hu : P.underlying dT = some (.slice elem)) (hs : (P.info? elem).map (·.size) = some k) (hm : m = Nat.min sLen dLen) (hn : cs.length = m * k)
    (hsrc : ∀ j v, cs[j]? = some v → w.cell? (a.add j) = some v) (hc : ∀ j, j < cs.length → (w.cell? ⟨b, o + j, none⟩).isSome = true) (hf : ∀ j, j < cs.length → w.frozen? ⟨b, o + j, none⟩ = false) (h1 : ∀ v ∈ cs, v.oneCell' = true) :
    (Builtin.copy_ #[dT, sT] ty #[.slice (some ⟨b, o, none⟩) dLen dCap, .slice (some a) sLen sCap]).run P w = .ok (goInt m) (w.setCells b o cs) := by
  have hl := run_loadCells_list (P := P) w a cs hsrc
  have hst := run_storeCells_cells (P := P) b o cs 0 w (by simpa using hc) (by simpa using hf) h1
  cases hq : P.info? elem with
  | none => simp [hq] at hs
  | some i =>
    have hi : i.size = k := by simpa [hq] using hs
    simp [Builtin.copy_, run_underlying hu, Builtin.lenOf, Builtin.firstCells, sizeOf, typeInfo, hq, hi, ← hm, ← hn, hl, hst]
/-- A list with other values from a place on. -/
def over {α : Type} : List α → Nat → List α → List α
  | l, _, [] => l
  | l, o, v :: r => over (l.set o v) (o + 1) r
theorem own_over {base g n c k : Nat} {t : TypeId} : ∀ (cs : List Value) (o : Nat) (w : World) (xs : List Value), w.ownsRow base t k (.slice (some ⟨g, 0, none⟩) n c) n xs → (w.setCells g o cs).ownsRow base t k (.slice (some ⟨g, 0, none⟩) n c) n (over xs o cs)
  | [], _, _, _, h => h
  | v :: r, o, w, xs, h => own_over r (o + 1) _ _ (h.stored o v).1
theorem below_setCells {B g : Nat} {w0 : World} (hg : B ≤ g) : ∀ (cs : List Value) (o : Nat) (w : World), Below B w0 w → Below B w0 (w.setCells g o cs)
  | [], _, _, h => h
  | v :: r, o, w, h => below_setCells hg r (o + 1) _ (Below.setCell h (p := ⟨g, o, none⟩) hg v)
end Go.Proofs.YthmkllpdkcmccaaGreatDoor
namespace Go.Proofs.YthmkllpdkcmccaaGreatDoor
open Go.RowKit Go.Lib
set_option maxRecDepth 100000
set_option linter.unusedVariables false
set_option linter.unusedSimpArgs false

theorem sizePt : (Tryz.prog.info? 24).map (·.size) = some 2 := by
  obtain ⟨i0, hi, hz0, hz1, hz2⟩ := info_parts infoPt
  rw [hi]; simp [hz1]
theorem one_cellsP (l : List Pt) : ∀ v ∈ l.flatMap ptC, v.oneCell' = true := elemPt.flat1 l
end Go.Proofs.YthmkllpdkcmccaaGreatDoor
