/-
  Contracts of MulSigned of package word, and of the function that it defers.
-/
import Derived.Test.YtgekbdlomkdeeaaDoorWord
import Derived.Test.YtgekbdlomkdeeaaDoorMem
import Derived.RegionTactic
import Derived.Deep.RegionWith
import Derived.Deep.RegionHeld3
import Derived.StillTactics
import Derived.Deep.DeepCutAuto
import Derived.Deep.CutRange
import Derived.Deep.RegionLaw
import Derived.Laws.Pointers
import Derived.WalkSpells
namespace Go.Proofs.YtgekbdlomkdeeaaDoor
open Go.RowKit

theorem cell_set_same {w : World} {p : Addr} {u v : Value} (h : w.cell? p = some u) (n : Nat) : ((w.setCell p v).drewN n).cell? p = some v := by
  show (w.setCell p v).cell? p = some v
  exact World.cell?_setCell_same _ _ _ h
theorem cell_set_other {w : World} {p q : Addr} {v : Value} {u : Option Value} (h : w.cell? q = u) (hne : q.block ≠ p.block) (n : Nat) : ((w.setCell p v).drewN n).cell? q = u := by
  show (w.setCell p v).cell? q = u
  rw [World.cell?_of_block (Below.heap_setCell w p v q.block hne)]; exact h
set_option maxHeartbeats 1000000 in
theorem mulSignedDefer (b0 : Nat) (x a b : Int) (w : World) (hw : Wts w) (hg : 0 < b0)
    (c0 : w.cell? ⟨b0 + 2, 0, none⟩ = some (.int .u64 x)) (c1 : w.cell? ⟨b0, 0, none⟩ = some (.int .i64 a)) (c2 : w.cell? ⟨b0 + 1, 0, none⟩ = some (.int .i64 b)) (z0 : w.frozen? ⟨b0 + 2, 0, none⟩ = false) :
    CallsD Tryd.prog 25 #[.pointer (some ⟨b0 + 2, 0, none⟩), .pointer (some ⟨b0, 0, none⟩), .pointer (some ⟨b0 + 1, 0, none⟩)] .returning w fun e u' w' =>
      u' = .returning ∧ (e = .returned (.tuple #[]) ∧ ∃ n m, w' = (((w.setCell ⟨b0 + 2, 0, none⟩ (.int .u64 (msub x a b))).drewN n).setCell ⟨b0 + 2, 0, none⟩ (.int .u64 (msub (msub x a b) b a))).drewN m) := by
  go_enter_d Tryd.func25, Tryd.ntmps25
  go_wp2_with (fail)
  go_cut [3] (fun s3 wx => ∃ n, wx = (w.setCell ⟨b0 + 2, 0, none⟩ (.int .u64 (msub x a b))).drewN n)
  case first =>
    go_region_law (first | (go_simp; go_at_call 19; refine (wordFill_any _ (U_wrap _) _ (by exact hw)).mono ?_; rintro e w' ⟨rfl, n1, rfl⟩))
    all_goals (go_wp2_with fail; go_meet; exact ⟨_, rfl⟩)
  case rest =>
    obtain ⟨n, hn⟩ := hcut
    have hw1 : Wts wc := by
      rw [hn]; exact ⟨cell_set_other hw.1 (by show (0 : Nat) ≠ b0 + 2; omega) n, cell_set_other hw.2 (by show (0 : Nat) ≠ b0 + 2; omega) n⟩
    have d0 : wc.cell? ⟨b0 + 2, 0, none⟩ = some (.int .u64 (msub x a b)) := by rw [hn]; exact cell_set_same c0 n
    have d1 : wc.cell? ⟨b0, 0, none⟩ = some (.int .i64 a) := by rw [hn]; exact cell_set_other c1 (by simp) n
    have d2 : wc.cell? ⟨b0 + 1, 0, none⟩ = some (.int .i64 b) := by rw [hn]; exact cell_set_other c2 (by simp) n
    have y0 : wc.frozen? ⟨b0 + 2, 0, none⟩ = false := by rw [hn]; exact (World.frozen?_setCell _ _ _ _).trans z0
    have HN := Lib.hid hn
    clear hn c0 c1 c2 z0 hw
    go_wp2_with (fail)
    go_region_law (first | (go_simp; go_at_call 19; refine (wordFill_any _ (U_wrap _) _ (by exact hw1)).mono ?_; rintro e w' ⟨rfl, n1, rfl⟩))
    all_goals (go_end0; exact ⟨rfl, n, _, by rw [← HN.out]; rfl⟩)
theorem Wts.size {w : World} (h : Wts w) : 0 < w.heap.size := by
  rcases Nat.lt_or_ge 0 w.heap.size with h' | h'
  · exact h'
  · have h1 := h.1
    rw [World.cell?] at h1
    simp [Array.getElem?_eq_none h'] at h1
theorem Wts.below {w w' : World} (h : Wts w) (hb : Below w.heap.size w w') : Wts w' :=
  ⟨(hb.cell (p := ⟨0, 0, none⟩) h.size).trans h.1, (hb.cell (p := ⟨0, 1, none⟩) h.size).trans h.2⟩
theorem mulSigned_any (a b : Int) (ha : S a) (hb : S b) (w : World) (hw : Wts w) :
    Calls Tryd.prog 17 #[.int .i64 a, .int .i64 b] w fun e w' => e = .returned (.tuple #[.int .u64 (lo (hi (a * b))), .int .u64 (lo (a * b))]) ∧ Below w.heap.size w w' := by
  have hmf : ∀ (fn : Fn) (first cap : Array Value) (w : World), (Instr.makeFunc fn first cap).run Tryd.prog w = .ok (.func fn first cap) w := fun _ _ _ _ => rfl
  have hb3 : Below w.heap.size w (((w.alloc (.cells #[.int .i64 a] 2)).alloc (.cells #[.int .i64 b] 2)).alloc (.cells #[.int .u64 (hi (IntKind.u64.wrap a * IntKind.u64.wrap b))] 22)) :=
    (((Below.refl _ _).alloc (Nat.le_refl _) _).alloc (by simp) _).alloc (by simp; omega) _
  have hs := hw.size
  go_enter_defers Tryd.func17, Tryd.ntmps17
  go_wp2_with (fail)
  refine (wordMul_any _ _ (U_wrap _) (U_wrap _) _).mono ?_
  rintro e w' ⟨rfl, hw1⟩
  obtain rfl := hw1.symm
  go_wp2_with (fail)
  refine leaves_cons (f := 25) (args := #[.pointer (some ⟨w.heap.size + 2, 0, none⟩), .pointer (some ⟨w.heap.size, 0, none⟩), .pointer (some ⟨w.heap.size + 1, 0, none⟩)]) (by simp) (by simp [go_sem]) ?_
  have c0 : (((w.alloc (.cells #[.int .i64 a] 2)).alloc (.cells #[.int .i64 b] 2)).alloc (.cells #[.int .u64 (hi (IntKind.u64.wrap a * IntKind.u64.wrap b))] 22)).cell? ⟨w.heap.size + 2, 0, none⟩ = some (.int .u64 (hi (IntKind.u64.wrap a * IntKind.u64.wrap b))) := by simp [go_sem]
  refine (mulSignedDefer w.heap.size (hi (IntKind.u64.wrap a * IntKind.u64.wrap b)) a b _ (hw.below hb3) hs c0 (by simp [go_sem]) (by simp [go_sem]) (by simp [go_sem])).mono ?_
  rintro e u' w'' ⟨rfl, rfl, n, m, rfl⟩
  rw [msub_val ha hb, mlo_val]
  have hc := cell_set_same (v := .int .u64 (lo (hi (a * b)))) (cell_set_same (v := .int .u64 (msub (hi (IntKind.u64.wrap a * IntKind.u64.wrap b)) a b)) c0 n) m
  have hbl := below_drewN' ((below_drewN' (hb3.setCell (p := ⟨w.heap.size + 2, 0, none⟩) (by simp) (.int .u64 (msub (hi (IntKind.u64.wrap a * IntKind.u64.wrap b)) a b))) n).setCell (p := ⟨w.heap.size + 2, 0, none⟩) (by simp) (.int .u64 (lo (hi (a * b))))) m
  generalize ((((((w.alloc (.cells #[.int .i64 a] 2)).alloc (.cells #[.int .i64 b] 2)).alloc (.cells #[.int .u64 (hi (IntKind.u64.wrap a * IntKind.u64.wrap b))] 22)).setCell ⟨w.heap.size + 2, 0, none⟩ (.int .u64 (msub (hi (IntKind.u64.wrap a * IntKind.u64.wrap b)) a b))).drewN n).setCell ⟨w.heap.size + 2, 0, none⟩ (.int .u64 (lo (hi (a * b))))).drewN m = W at hc hbl ⊢
  have hc' : W.cell? ⟨w.heap.size + 1 + 1, 0, none⟩ = some (.int .u64 (lo (hi (a * b)))) := hc
  simp [Leaves, settle, results, Tryd.results17, go_sem, hc']
  exact hbl
end Go.Proofs.YtgekbdlomkdeeaaDoor
