/-
  The reference of layer 13. (Written by ref13.py.)
-/
import Derived.Test.YthdghhfdbckilaaDoorSrt
import Derived.Test.YthdghhfdbckilaaDoorRow
import Derived.Test.YthdghhfdbckilaaDoorWords
import Derived.Test.YthdghhfdbckilaaDoorTail
import Derived.BigQuiet
import Derived.Lib.SliceRun
import Derived.WalkSpells
import Derived.Deep.QuietTactic
import Derived.Deep.RegionLaw
import Derived.Laws.StructEq
namespace Go.Proofs.YthdghhfdbckilaaDoor
open Go.RowKit
set_option maxRecDepth 100000
set_option linter.unusedVariables false
set_option linter.unusedSimpArgs false

/-- Records whose numbers are words. -/
def UsR (l : List Rc) : Prop := ∀ r ∈ l, U r.live ∧ U r.id
theorem infoRc : (Tryd.prog.info? 24).map (fun i => (i.zero, i.size, i.bytes)) = some (some (.agg #[.int .u64 0, .int .u64 0]), 2, 16) := by kernel_rfl
theorem elemRc : ElemT Tryd.prog 30 24 2 rcC := by
  obtain ⟨i0, hi, hz0, hz1, hz2⟩ := info_parts infoRc
  exact ⟨Tryd.underlying30, ⟨i0, _, hi, hz0, hz1, by rw [hz2]; decide, rfl⟩, by decide, fun _ => rfl, fun x u hu => by simp [rcC] at hu; rcases hu with rfl | rfl <;> rfl⟩
theorem clean_yes {x : Rc} (h : x.live % 2 = 1) : cleanR x = ⟨1, x.id⟩ := by unfold cleanR; rw [if_pos h]
theorem clean_no {x : Rc} (h : ¬ x.live % 2 = 1) : cleanR x = ⟨0, 0⟩ := by unfold cleanR; rw [if_neg h]
theorem ref13Clean_yes (x : Rc) (w : World) (h0 : U x.live) (h : x.live % 2 = 1) : Calls Tryd.prog 11 #[.agg #[.int .u64 x.live, .int .u64 x.id]] w fun e w' => e = .returned (.agg #[.int .u64 1, .int .u64 x.id]) ∧ Below w.heap.size w w' := by
  obtain ⟨a, b⟩ := x
  simp only at h h0 ⊢
  have hd : (a % 2 == 1) = true := by rw [h]; rfl
  have h0 := h0.1
  clear h
  go_enter Tryd.func11, Tryd.ntmps11
  go_wp2
  exact bodyPost_ret (v := .agg #[.int .u64 1, .int .u64 b]) (by simp [results, Tryd.results11, go_sem]) rfl ⟨rfl, ((Below.refl _ _).alloc (Nat.le_refl _) _).alloc (by simp) _⟩
theorem ref13Clean_no (x : Rc) (w : World) (h0 : U x.live) (h : ¬ x.live % 2 = 1) : Calls Tryd.prog 11 #[.agg #[.int .u64 x.live, .int .u64 x.id]] w fun e w' => e = .returned (.agg #[.int .u64 0, .int .u64 0]) ∧ Below w.heap.size w w' := by
  obtain ⟨a, b⟩ := x
  simp only at h h0 ⊢
  have hd : (a % 2 == 1) = false := by rw [beq_eq_false_iff_ne]; exact h
  have h0 := h0.1
  clear h
  go_enter Tryd.func11, Tryd.ntmps11
  go_wp2
  exact bodyPost_ret (v := .agg #[.int .u64 0, .int .u64 0]) (by simp [results, Tryd.results11, go_sem]) rfl ⟨rfl, ((Below.refl _ _).alloc (Nat.le_refl _) _).alloc (by simp) _⟩
theorem ref13Clean_any (x : Rc) (w : World) (h0 : U x.live) : Calls Tryd.prog 11 #[.agg #[.int .u64 x.live, .int .u64 x.id]] w fun e w' => e = .returned (.agg #[.int .u64 (cleanR x).live, .int .u64 (cleanR x).id]) ∧ Below w.heap.size w w' := by
  by_cases h : x.live % 2 = 1
  · rw [clean_yes h]; exact ref13Clean_yes x w h0 h
  · rw [clean_no h]; exact ref13Clean_no x w h0 h
theorem rank_yes {x : Rc} (h : x.live % 2 = 1) : rankR x = x.id := by unfold rankR; rw [if_pos h]
theorem rank_no {x : Rc} (h : ¬ x.live % 2 = 1) : rankR x = 18446744073709551616 := by unfold rankR; rw [if_neg h]
set_option maxHeartbeats 1000000 in
theorem ref13Less_any (x y : Rc) (r : Bool) (w : World) (hx : U x.live ∧ U x.id) (hy : U y.live ∧ U y.id) (hr : lessR x y = r) :
    Calls Tryd.prog 14 #[.agg #[.int .u64 x.live, .int .u64 x.id], .agg #[.int .u64 y.live, .int .u64 y.id]] w fun e w' => e = .returned (.bool r) ∧ Below w.heap.size w w' := by
  have h0 : Below w.heap.size w ((w.alloc (.cells #[.int .u64 x.live, .int .u64 x.id] 24)).alloc (.cells #[.int .u64 y.live, .int .u64 y.id] 24)) := ((Below.refl _ _).alloc (Nat.le_refl _) _).alloc (by simp) _
  have c0 : ((w.alloc (.cells #[.int .u64 x.live, .int .u64 x.id] 24)).alloc (.cells #[.int .u64 y.live, .int .u64 y.id] 24)).cell? ⟨w.heap.size + 1, 0, none⟩ = some (.int .u64 y.live) := by simp [go_sem]
  have c1 : ((w.alloc (.cells #[.int .u64 x.live, .int .u64 x.id] 24)).alloc (.cells #[.int .u64 y.live, .int .u64 y.id] 24)).cell? ⟨w.heap.size + 1, 1, none⟩ = some (.int .u64 y.id) := by simp [go_sem]
  by_cases hx1 : x.live % 2 = 1
  · by_cases hy1 : y.live % 2 = 1
    · have HR : r = decide (x.id < y.id) := by rw [← hr]; unfold lessR; rw [rank_yes hx1, rank_yes hy1]
      subst HR
      have k1 := fun w => ref13Clean_yes x w hx.1 hx1
      have k2 := fun w => ref13Clean_yes y w hy.1 hy1
      clear hx hy hx1 hy1 hr
      go_enter Tryd.func14, Tryd.ntmps14
      go_wp2_with (fail)
      refine (k1 _).mono ?_
      rintro e w1 ⟨rfl, hb1⟩
      have h1 := h0.trans (hb1.mono h0.size)
      have d0 := (hb1.cell (p := ⟨w.heap.size + 1, 0, none⟩) (lt_of_cell c0)).trans c0
      have d1 := (hb1.cell (p := ⟨w.heap.size + 1, 1, none⟩) (lt_of_cell c1)).trans c1
      clear c0 c1
      have h2 := h1.alloc h1.size (.cells #[.int .u64 1, .int .u64 x.id] 24)
      have d0 := Lib.cell?_alloc_some (.cells #[.int .u64 1, .int .u64 x.id] 24) d0
      have d1 := Lib.cell?_alloc_some (.cells #[.int .u64 1, .int .u64 x.id] 24) d1
      have e0 : (w1.alloc (.cells #[.int .u64 1, .int .u64 x.id] 24)).cell? ⟨w1.heap.size, 0, none⟩ = some (.int .u64 1) := by simp [go_sem]
      have e1 : (w1.alloc (.cells #[.int .u64 1, .int .u64 x.id] 24)).cell? ⟨w1.heap.size, 1, none⟩ = some (.int .u64 x.id) := by simp [go_sem]
      go_wp2_with (fail)
      refine (k2 _).mono ?_
      rintro e w2 ⟨rfl, hb2⟩
      have h3 := h2.trans (hb2.mono h2.size)
      have f0 := (hb2.cell (p := ⟨w1.heap.size, 0, none⟩) (lt_of_cell e0)).trans e0
      have f1 := (hb2.cell (p := ⟨w1.heap.size, 1, none⟩) (lt_of_cell e1)).trans e1
      clear e0 e1 d0 d1 hb1 hb2
      have f0 := Lib.cell?_alloc_some (.cells #[.int .u64 1, .int .u64 y.id] 24) f0
      have f1 := Lib.cell?_alloc_some (.cells #[.int .u64 1, .int .u64 y.id] 24) f1
      go_wp2
      go_ret
      exact ⟨rfl, h3.alloc h3.size _⟩
    · have HR : r = true := by rw [← hr]; unfold lessR; rw [rank_yes hx1, rank_no hy1]; exact decide_eq_true (by have := hx.2; unfold U at this; omega)
      subst HR
      have k1 := fun w => ref13Clean_yes x w hx.1 hx1
      have k2 := fun w => ref13Clean_no y w hy.1 hy1
      clear hx hy hx1 hy1 hr
      go_enter Tryd.func14, Tryd.ntmps14
      go_wp2_with (fail)
      refine (k1 _).mono ?_
      rintro e w1 ⟨rfl, hb1⟩
      have h1 := h0.trans (hb1.mono h0.size)
      have d0 := (hb1.cell (p := ⟨w.heap.size + 1, 0, none⟩) (lt_of_cell c0)).trans c0
      have d1 := (hb1.cell (p := ⟨w.heap.size + 1, 1, none⟩) (lt_of_cell c1)).trans c1
      clear c0 c1
      have h2 := h1.alloc h1.size (.cells #[.int .u64 1, .int .u64 x.id] 24)
      have d0 := Lib.cell?_alloc_some (.cells #[.int .u64 1, .int .u64 x.id] 24) d0
      have d1 := Lib.cell?_alloc_some (.cells #[.int .u64 1, .int .u64 x.id] 24) d1
      have e0 : (w1.alloc (.cells #[.int .u64 1, .int .u64 x.id] 24)).cell? ⟨w1.heap.size, 0, none⟩ = some (.int .u64 1) := by simp [go_sem]
      have e1 : (w1.alloc (.cells #[.int .u64 1, .int .u64 x.id] 24)).cell? ⟨w1.heap.size, 1, none⟩ = some (.int .u64 x.id) := by simp [go_sem]
      go_wp2_with (fail)
      refine (k2 _).mono ?_
      rintro e w2 ⟨rfl, hb2⟩
      have h3 := h2.trans (hb2.mono h2.size)
      have f0 := (hb2.cell (p := ⟨w1.heap.size, 0, none⟩) (lt_of_cell e0)).trans e0
      have f1 := (hb2.cell (p := ⟨w1.heap.size, 1, none⟩) (lt_of_cell e1)).trans e1
      clear e0 e1 d0 d1 hb1 hb2
      have f0 := Lib.cell?_alloc_some (.cells #[.int .u64 0, .int .u64 0] 24) f0
      have f1 := Lib.cell?_alloc_some (.cells #[.int .u64 0, .int .u64 0] 24) f1
      go_wp2
      go_ret
      exact ⟨rfl, h3.alloc h3.size _⟩
  · by_cases hy1 : y.live % 2 = 1
    · have HR : r = false := by rw [← hr]; unfold lessR; rw [rank_no hx1, rank_yes hy1]; exact decide_eq_false (by have := hy.2; unfold U at this; omega)
      subst HR
      have k1 := fun w => ref13Clean_no x w hx.1 hx1
      have k2 := fun w => ref13Clean_yes y w hy.1 hy1
      clear hx hy hx1 hy1 hr
      go_enter Tryd.func14, Tryd.ntmps14
      go_wp2_with (fail)
      refine (k1 _).mono ?_
      rintro e w1 ⟨rfl, hb1⟩
      have h1 := h0.trans (hb1.mono h0.size)
      have d0 := (hb1.cell (p := ⟨w.heap.size + 1, 0, none⟩) (lt_of_cell c0)).trans c0
      have d1 := (hb1.cell (p := ⟨w.heap.size + 1, 1, none⟩) (lt_of_cell c1)).trans c1
      clear c0 c1
      have h2 := h1.alloc h1.size (.cells #[.int .u64 0, .int .u64 0] 24)
      have d0 := Lib.cell?_alloc_some (.cells #[.int .u64 0, .int .u64 0] 24) d0
      have d1 := Lib.cell?_alloc_some (.cells #[.int .u64 0, .int .u64 0] 24) d1
      have e0 : (w1.alloc (.cells #[.int .u64 0, .int .u64 0] 24)).cell? ⟨w1.heap.size, 0, none⟩ = some (.int .u64 0) := by simp [go_sem]
      have e1 : (w1.alloc (.cells #[.int .u64 0, .int .u64 0] 24)).cell? ⟨w1.heap.size, 1, none⟩ = some (.int .u64 0) := by simp [go_sem]
      go_wp2_with (fail)
      refine (k2 _).mono ?_
      rintro e w2 ⟨rfl, hb2⟩
      have h3 := h2.trans (hb2.mono h2.size)
      have f0 := (hb2.cell (p := ⟨w1.heap.size, 0, none⟩) (lt_of_cell e0)).trans e0
      have f1 := (hb2.cell (p := ⟨w1.heap.size, 1, none⟩) (lt_of_cell e1)).trans e1
      clear e0 e1 d0 d1 hb1 hb2
      have f0 := Lib.cell?_alloc_some (.cells #[.int .u64 1, .int .u64 y.id] 24) f0
      have f1 := Lib.cell?_alloc_some (.cells #[.int .u64 1, .int .u64 y.id] 24) f1
      go_wp2
      go_ret
      exact ⟨rfl, h3.alloc h3.size _⟩
    · have HR : r = false := by rw [← hr]; unfold lessR; rw [rank_no hx1, rank_no hy1]; exact decide_eq_false (by have := hy.2; unfold U at this; omega)
      subst HR
      have k1 := fun w => ref13Clean_no x w hx.1 hx1
      have k2 := fun w => ref13Clean_no y w hy.1 hy1
      clear hx hy hx1 hy1 hr
      go_enter Tryd.func14, Tryd.ntmps14
      go_wp2_with (fail)
      refine (k1 _).mono ?_
      rintro e w1 ⟨rfl, hb1⟩
      have h1 := h0.trans (hb1.mono h0.size)
      have d0 := (hb1.cell (p := ⟨w.heap.size + 1, 0, none⟩) (lt_of_cell c0)).trans c0
      have d1 := (hb1.cell (p := ⟨w.heap.size + 1, 1, none⟩) (lt_of_cell c1)).trans c1
      clear c0 c1
      have h2 := h1.alloc h1.size (.cells #[.int .u64 0, .int .u64 0] 24)
      have d0 := Lib.cell?_alloc_some (.cells #[.int .u64 0, .int .u64 0] 24) d0
      have d1 := Lib.cell?_alloc_some (.cells #[.int .u64 0, .int .u64 0] 24) d1
      have e0 : (w1.alloc (.cells #[.int .u64 0, .int .u64 0] 24)).cell? ⟨w1.heap.size, 0, none⟩ = some (.int .u64 0) := by simp [go_sem]
      have e1 : (w1.alloc (.cells #[.int .u64 0, .int .u64 0] 24)).cell? ⟨w1.heap.size, 1, none⟩ = some (.int .u64 0) := by simp [go_sem]
      go_wp2_with (fail)
      refine (k2 _).mono ?_
      rintro e w2 ⟨rfl, hb2⟩
      have h3 := h2.trans (hb2.mono h2.size)
      have f0 := (hb2.cell (p := ⟨w1.heap.size, 0, none⟩) (lt_of_cell e0)).trans e0
      have f1 := (hb2.cell (p := ⟨w1.heap.size, 1, none⟩) (lt_of_cell e1)).trans e1
      clear e0 e1 d0 d1 hb1 hb2
      have f0 := Lib.cell?_alloc_some (.cells #[.int .u64 0, .int .u64 0] 24) f0
      have f1 := Lib.cell?_alloc_some (.cells #[.int .u64 0, .int .u64 0] 24) f1
      go_wp2
      go_ret
      exact ⟨rfl, h3.alloc h3.size _⟩
theorem liveN_snoc (l : List Rc) (k : Nat) (h : k < l.length) : (liveN (l.take (k + 1)) : Int) = liveN (l.take k) + l[k].live % 2 := by
  unfold liveN
  rw [List.take_succ_eq_append_getElem h, List.countP_append, List.countP_singleton]
  have h2 : l[k].live % 2 = 0 ∨ l[k].live % 2 = 1 := by omega
  rcases h2 with h2 | h2 <;> rw [h2] <;> simp
theorem RowR.rec_ {w : World} {S : Nat → Prop} {A : Option Addr} {l : List Rc} (h : RowR w S 2 rcC A l) {k : Nat} (hk : k < l.length) :
    ∃ b o, A = some ⟨b, o, none⟩ ∧ S b ∧ w.cell? ⟨b, o + k * 2, none⟩ = some (.int .u64 (l[k]'hk).live) ∧ w.cell? ⟨b, o + k * 2 + 1, none⟩ = some (.int .u64 (l[k]'hk).id) := by
  obtain ⟨b, o, e, hS, hc⟩ := h.at_ hk
  exact ⟨b, o, e, hS, hc 0 _ rfl, hc 1 _ rfl⟩
set_option maxHeartbeats 1000000 in
theorem ref13Count_any (A : Option Addr) (c : Nat) (l : List Rc) (r : Int) (S : Nat → Prop) (w : World) (ha : RowR w S 2 rcC A l) (hl : l.length ≤ 1000000) (hU : UsR l) (hr : (liveN l : Int) = r) :
    Calls Tryd.prog 20 #[.slice A l.length c] w fun e w' => e = .returned (.int .u64 r) ∧ w' = w := by
  have HR := Lib.hid hr
  clear hr
  go_enter Tryd.func20, Tryd.ntmps20
  go_wp2
  go_loop [3, 4] (fun n i => ∃ k : Nat, i = .int .i64 k ∧ k ≤ l.length ∧ n = .int .u64 (liveN (l.take k))) (fun _ i => l.length - (intOf i).toNat)
  case atStart => exact ⟨0, rfl, Nat.zero_le _, rfl⟩
  case round =>
    obtain ⟨k, rfl, hk, rfl⟩ := hrel
    by_cases hgo : k < l.length
    · obtain ⟨b, o, rfl, _, hc, _⟩ := ha.rec_ hgo
      have HS := Lib.hid (liveN_snoc l k hgo)
      have hb0 : (liveN (l.take k) : Int) ≤ 1000000 := by have := liveN_le (l.take k); rw [List.length_take] at this; omega
      have hux := (hU _ (List.getElem_mem hgo)).1
      clear ha
      obtain ⟨x, hx⟩ : ∃ x, x = (l[k]'hgo).live := ⟨_, rfl⟩
      obtain ⟨n0, hn0⟩ : ∃ n0 : Int, n0 = (liveN (l.take k) : Int) := ⟨_, rfl⟩
      rw [← hx, ← hn0] at HS
      rw [← hx] at hc hux
      rw [← hn0] at hb0 ⊢
      have hn1 : 0 ≤ n0 := by omega
      have hx0 : 0 ≤ x := hux.1
      have hz : IntKind.u64.wrap (n0 + x % 2) = n0 + x % 2 := wrap_u64' (by omega) (by omega)
      clear hx hn0 hux
      go_wp2
      go_round
      case rel => exact ⟨k + 1, by go_num, hgo, by rw [HS.out]⟩
      case measure => simp [intOf]; omega
    · have HE := Lib.hid (show l.take k = l from List.take_of_length_le (by omega))
      clear ha
      go_wp2
      go_ret
      exact ⟨by rw [HE.out, HR.out]; rfl, rfl⟩
set_option maxHeartbeats 1000000 in
/-- Same, of the same records. -/
theorem ref13Same_yes (A B : Option Addr) (c d n m : Nat) (l : List Rc) (S T : Nat → Prop) (w : World) (ha : RowR w S 2 rcC A l) (hb : RowR w T 2 rcC B l) (hn : n = l.length) (hm : m = l.length) (hl : l.length ≤ 1000000) :
    Calls Tryd.prog 17 #[.slice A n c, .slice B m d] w fun e w' => e = .returned (.bool true) ∧ Below w.heap.size w w' := by
  subst hn hm
  go_enter Tryd.func17, Tryd.ntmps17
  go_wp2
  go_loopw [5] (fun i wr => ∃ k q : Nat, i = .int .i64 k ∧ k ≤ l.length ∧ wr = w.drewN q) (fun i _ => l.length - (intOf i).toNat)
  case atStart => exact ⟨0, 0, rfl, Nat.zero_le _, rfl⟩
  case round =>
    obtain ⟨k, q, rfl, hk, rfl⟩ := hrel
    by_cases hgo : k < l.length
    · obtain ⟨b, o, rfl, _, h1, h2⟩ := ha.rec_ hgo
      obtain ⟨b', o', rfl, _, k1, k2⟩ := hb.rec_ hgo
      clear ha hb
      generalize l[k]'hgo = p at h1 h2 k1 k2
      have d1 : ((p.live : Int) != (p.live : Int)) = false := by simp
      have d2 : ((p.id : Int) != (p.id : Int)) = false := by simp
      go_wp2
      go_quiet (fail)
      go_wp2
      go_roundw
      case rel => exact ⟨k + 1, q + nq, by go_num, hgo, by simp [go_sem]⟩
      case measure => simp [intOf]; omega
    · clear ha hb
      go_wp2
      go_ret
      exact ⟨rfl, below_drewN' (Below.refl _ _) q⟩
end Go.Proofs.YthdghhfdbckilaaDoor
