/-
  Contracts of package decimal, fourth part: bytes turned round.
-/
import Derived.Test.YtpdmpmlieligoaaDoorDecD
import Derived.Shelf.RegionOpenPlain
namespace Go.Proofs.YtpdmpmlieligoaaDoor
open Go.RowKit

def RevRel (W : World) (B g n cap : Nat) (ds : List Int) (i j : Value) (wr : World) : Prop :=
  ∃ (k : Nat) (os : List Int), i = .int .i64 k ∧ j = .int .i64 ((n : Int) - 1 - k) ∧ 2 * k ≤ n ∧ OwnK wr B 5 .u8 (.slice (some ⟨g, 0, none⟩) n cap) os ∧ os.length = n ∧
    (∀ t, t < n → dgt os t = if t < k ∨ n - 1 - k < t then dgt ds (n - 1 - t) else dgt ds t) ∧ Below B W wr
set_option maxHeartbeats 4000000 in
theorem reverse_any (B g n cap : Nat) (ds : List Int) (w : World) (_hB : B ≤ w.heap.size) (hg : B ≤ g) (hown : OwnK w B 5 .u8 (.slice (some ⟨g, 0, none⟩) n cap) ds) (hl : ds.length = n) (hn : n ≤ 1000000) (h1 : 1 ≤ n) :
    Calls Tryd.prog 22 #[.slice (some ⟨g, 0, none⟩) n cap] w fun e w' => e = .returned (.tuple #[]) ∧ OwnK w' B 5 .u8 (.slice (some ⟨g, 0, none⟩) n cap) ds.reverse ∧ Below B w w' := by
  have HO0 := Lib.hid hown
  have HL0 := Lib.hid hl
  clear hown hl
  go_enter Tryd.func22, Tryd.ntmps22
  go_wp2
  go_loopw [2, 3] (fun i j wr => RevRel w B g n cap ds i j wr) (fun i _ _ => n - (intOf i).toNat)
  case atStart => exact ⟨0, ds, rfl, by simp, by omega, HO0.out, HL0.out, fun t ht => by rw [if_neg (by omega)], Below.refl _ _⟩
  case round =>
    obtain ⟨k, os, rfl, rfl, hk, hown, hlo, hrel, hbl⟩ := hrel
    have HO := Lib.hid hown
    have HL := Lib.hid hlo
    have HR := Lib.hid hrel
    clear hown hlo hrel
    by_cases hgo : k + 1 < n - k
    · obtain ⟨m, hm⟩ : ∃ m, n = m + k + 1 := ⟨n - k - 1, by omega⟩
      have hkm : k < m := by omega
      have ej : (n : Int) - 1 - k = (m : Int) := by omega
      rw [ej]
      have ci := HO.out.cell_ HL.out (show k < n by omega)
      have fi := HO.out.frozen_ HL.out k
      have cj := HO.out.cell_ HL.out (show m < n by omega)
      have fj := HO.out.frozen_ HL.out m
      have hmn : m < n := by omega
      have hkn : k < n := by omega
      have HM := Lib.hid hm
      have mixed : Tryd.prog.follows Departure.mixedOrders = true := by kernel_rfl
      clear ej hm hgo
      go_wp2_with (fail)
      go_region_o
      go_wp2
      go_roundw
      case rel =>
        have hp : k < os.length := by rw [HL.out]; exact hkn
        have o1 := OwnK.set_ (os := os) (by exact HO.out) HL.out k (dgt os m)
        have o2 := OwnK.set_ (os := os.set k (dgt os m)) o1.1 o1.2 m (dgt os k)
        have hm := HM.out
        refine ⟨k + 1, (os.set k (dgt os m)).set m (dgt os k), by go_num, by rw [Int.natCast_add]; congr 1; omega, by omega, o2.1, o2.2, fun t ht => ?_, below_drewN' ((hbl.setCell (p := ⟨g, k, none⟩) hg _).setCell (p := ⟨g, m, none⟩) hg _) 1⟩
        have r1 := HR.out t ht
        have r2 := HR.out k hkn
        have r3 := HR.out m hmn
        rw [dgt_set _ (by rw [o1.2]; exact hmn), dgt_set _ hp]
        rw [if_neg (by omega)] at r2 r3
        by_cases e1 : t = m
        · subst e1
          rw [if_pos rfl, r2, if_pos (by omega)]
          congr 1; omega
        · rw [if_neg e1]
          by_cases e2 : t = k
          · subst e2
            rw [if_pos rfl, r3, if_pos (by omega)]
            congr 1; omega
          · rw [if_neg e2, r1]
            by_cases e3 : t < k ∨ n - 1 - k < t
            · rw [if_pos e3, if_pos (by omega)]
            · rw [if_neg e3, if_neg (by omega)]
      case measure => simp [intOf]; omega
    · have hge : ¬ (k : Int) < (n : Int) - 1 - k := by omega
      have HF := Lib.hid (show os = ds.reverse by
        refine ext_dgt (by rw [List.length_reverse, HL.out, HL0.out]) fun t ht => ?_
        rw [HL.out] at ht
        rw [HR.out t ht]
        have hrv : dgt ds.reverse t = dgt ds (n - 1 - t) := by
          rw [dgt_lt (by rw [List.length_reverse, HL0.out]; exact ht), dgt_lt (by rw [HL0.out]; omega), List.getElem_reverse]
          congr 1; rw [HL0.out]
        rw [hrv]
        by_cases e : t < k ∨ n - 1 - k < t
        · rw [if_pos e]
        · rw [if_neg e]; congr 1; omega)
      clear hgo
      go_wp2
      go_end0
      rw [← HF.out]
      exact ⟨rfl, HO.out, hbl⟩
end Go.Proofs.YtpdmpmlieligoaaDoor
