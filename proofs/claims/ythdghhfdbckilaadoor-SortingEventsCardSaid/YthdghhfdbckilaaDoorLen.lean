/-
  Contracts of Len64 and LeadingZeros64 of package bits.
-/
import Derived.Test.YthdghhfdbckilaaDoorWords
import Derived.Test.YthdghhfdbckilaaDoorDivM
namespace Go.Proofs.YthdghhfdbckilaaDoor
open Go.RowKit
set_option maxRecDepth 100000
set_option linter.unusedVariables false
set_option linter.unusedSimpArgs false

def len8 : ByteArray := ⟨#[0, 1, 2, 2, 3, 3, 3, 3, 4, 4, 4, 4, 4, 4, 4, 4, 5, 5, 5, 5, 5, 5, 5, 5, 5, 5, 5, 5, 5, 5, 5, 5, 6, 6, 6, 6, 6, 6, 6, 6, 6, 6, 6, 6, 6, 6, 6, 6, 6, 6, 6, 6, 6, 6, 6, 6, 6, 6, 6, 6, 6, 6, 6, 6, 7, 7, 7, 7, 7, 7, 7, 7, 7, 7, 7, 7, 7, 7, 7, 7, 7, 7, 7, 7, 7, 7, 7, 7, 7, 7, 7, 7, 7, 7, 7, 7, 7, 7, 7, 7, 7, 7, 7, 7, 7, 7, 7, 7, 7, 7, 7, 7, 7, 7, 7, 7, 7, 7, 7, 7, 7, 7, 7, 7, 7, 7, 7, 7, 8, 8, 8, 8, 8, 8, 8, 8, 8, 8, 8, 8, 8, 8, 8, 8, 8, 8, 8, 8, 8, 8, 8, 8, 8, 8, 8, 8, 8, 8, 8, 8, 8, 8, 8, 8, 8, 8, 8, 8, 8, 8, 8, 8, 8, 8, 8, 8, 8, 8, 8, 8, 8, 8, 8, 8, 8, 8, 8, 8, 8, 8, 8, 8, 8, 8, 8, 8, 8, 8, 8, 8, 8, 8, 8, 8, 8, 8, 8, 8, 8, 8, 8, 8, 8, 8, 8, 8, 8, 8, 8, 8, 8, 8, 8, 8, 8, 8, 8, 8, 8, 8, 8, 8, 8, 8, 8, 8, 8, 8, 8, 8, 8, 8, 8, 8, 8, 8, 8, 8, 8, 8, 8, 8, 8, 8, 8, 8]⟩
theorem len8_size : len8.size = 256 := by decide +kernel
theorem len8_all : ∀ k : Fin 256, (len8[k.val]'(by rw [len8_size]; exact k.isLt)).toNat = bl k.val := by decide +kernel
theorem len8_at {z : Int} (h : z.toNat < len8.size) : ((len8[z.toNat]'h).toNat : Int) = (bl z.toNat : Int) := by
  have h2 : z.toNat < 256 := by rw [len8_size] at h; exact h
  exact congrArg Int.ofNat (len8_all ⟨z.toNat, h2⟩)
theorem bl_le {n : Nat} (h : n < 256) : bl n ≤ 8 := by
  have := len8_all ⟨n, h⟩
  rcases Nat.lt_or_ge 8 (bl n) with h1 | h1
  · have hb : 0 < n := by
      rcases Nat.eq_zero_or_pos n with h0 | h0
      · subst h0; simp [bl] at h1
      · exact h0
    have h2 := (bl_bd hb).1
    have h3 : 2 ^ 8 ≤ 2 ^ (bl n - 1) := Nat.pow_le_pow_right (by omega) (by omega)
    omega
  · exact h1
theorem wrap64_small {n : Int} (h0 : 0 ≤ n) (h1 : n ≤ 1000) : wrap64 n = n := by simp only [wrap64]; omega
theorem shiftI {x : Int} (s : Nat) (P : Int) (hP : P = ((2 ^ s : Nat) : Int)) (h : P ≤ x) : bl x.toNat = bl (x / P).toNat + s := by
  have h0 : (0 : Int) ≤ P := by rw [hP]; exact Int.natCast_nonneg _
  obtain ⟨n, rfl⟩ := Int.eq_ofNat_of_zero_le (show 0 ≤ x by omega)
  subst hP
  have e : ((n : Int) / ((2 ^ s : Nat) : Int)).toNat = n / 2 ^ s := by rw [← Int.natCast_ediv, Int.toNat_natCast]
  rw [e, Int.toNat_natCast]
  exact bl_shift (by omega)
theorem len_fin (c : Int) {z : Int} (h0 : 0 ≤ z) (h1 : z < 256) (h : z.toNat < len8.size) (hc0 : 0 ≤ c := by decide) (hc1 : c ≤ 64 := by decide) : wrap64 (c + wrap64 ((len8[z.toNat]'h).toNat : Int)) = c + (bl z.toNat : Int) := by
  rw [len8_at h]
  have := bl_le (n := z.toNat) (by omega)
  rw [wrap64_small (n := (bl z.toNat : Int)) (by omega) (by omega), wrap64_small (by omega) (by omega)]
theorem len_fin0 {z : Int} (h0 : 0 ≤ z) (h1 : z < 256) (h : z.toNat < len8.size) : wrap64 (wrap64 ((len8[z.toNat]'h).toNat : Int)) = (bl z.toNat : Int) := by
  rw [len8_at h]
  have := bl_le (n := z.toNat) (by omega)
  rw [wrap64_small (n := (bl z.toNat : Int)) (by omega) (by omega), wrap64_small (by omega) (by omega)]
set_option maxRecDepth 100000 in
set_option maxHeartbeats 1000000 in
theorem len64_any (x : Int) (hx : U x) (w : World) :
    Calls Tryd.prog 53 #[.int .u64 x] w fun e w' => e = .returned (.int .i64 (bl x.toNat)) ∧ w' = w := by
  obtain ⟨h0, h1⟩ := hx
  by_cases c0 : (4294967296 : Int) ≤ x
  · by_cases c1 : (65536 : Int) ≤ x / 4294967296
    · by_cases c2 : (256 : Int) ≤ x / 4294967296 / 65536
      · have e1 : IntKind.u8.wrap (x / 4294967296 / 65536 / 256) = x / 4294967296 / 65536 / 256 := by simp [IntKind.wrap, IntKind.bits, IntKind.signed]; omega
        have s0 := Lib.hid (shiftI (x := x) 32 4294967296 (by decide) (by omega))
        have s1 := Lib.hid (shiftI (x := x / 4294967296) 16 65536 (by decide) (by omega))
        have s2 := Lib.hid (shiftI (x := x / 4294967296 / 65536) 8 256 (by decide) (by omega))
        go_enter Tryd.func53, Tryd.ntmps53
        go_wp2
        go_ret
        exact ⟨ret_int ((len_fin 56 (z := x / 4294967296 / 65536 / 256) (by omega) (by omega) (by rw [len8_size]; omega)).trans (by have := s0.out; have := s1.out; have := s2.out; omega)), rfl⟩
      · have e1 : IntKind.u8.wrap (x / 4294967296 / 65536) = x / 4294967296 / 65536 := by simp [IntKind.wrap, IntKind.bits, IntKind.signed]; omega
        have s0 := Lib.hid (shiftI (x := x) 32 4294967296 (by decide) (by omega))
        have s1 := Lib.hid (shiftI (x := x / 4294967296) 16 65536 (by decide) (by omega))
        go_enter Tryd.func53, Tryd.ntmps53
        go_wp2
        go_ret
        exact ⟨ret_int ((len_fin 48 (z := x / 4294967296 / 65536) (by omega) (by omega) (by rw [len8_size]; omega)).trans (by have := s0.out; have := s1.out; omega)), rfl⟩
    · by_cases c2 : (256 : Int) ≤ x / 4294967296
      · have e1 : IntKind.u8.wrap (x / 4294967296 / 256) = x / 4294967296 / 256 := by simp [IntKind.wrap, IntKind.bits, IntKind.signed]; omega
        have s0 := Lib.hid (shiftI (x := x) 32 4294967296 (by decide) (by omega))
        have s1 := Lib.hid (shiftI (x := x / 4294967296) 8 256 (by decide) (by omega))
        go_enter Tryd.func53, Tryd.ntmps53
        go_wp2
        go_ret
        exact ⟨ret_int ((len_fin 40 (z := x / 4294967296 / 256) (by omega) (by omega) (by rw [len8_size]; omega)).trans (by have := s0.out; have := s1.out; omega)), rfl⟩
      · have e1 : IntKind.u8.wrap (x / 4294967296) = x / 4294967296 := by simp [IntKind.wrap, IntKind.bits, IntKind.signed]; omega
        have s0 := Lib.hid (shiftI (x := x) 32 4294967296 (by decide) (by omega))
        go_enter Tryd.func53, Tryd.ntmps53
        go_wp2
        go_ret
        exact ⟨ret_int ((len_fin 32 (z := x / 4294967296) (by omega) (by omega) (by rw [len8_size]; omega)).trans (by have := s0.out; omega)), rfl⟩
  · by_cases c1 : (65536 : Int) ≤ x
    · by_cases c2 : (256 : Int) ≤ x / 65536
      · have e1 : IntKind.u8.wrap (x / 65536 / 256) = x / 65536 / 256 := by simp [IntKind.wrap, IntKind.bits, IntKind.signed]; omega
        have s0 := Lib.hid (shiftI (x := x) 16 65536 (by decide) (by omega))
        have s1 := Lib.hid (shiftI (x := x / 65536) 8 256 (by decide) (by omega))
        go_enter Tryd.func53, Tryd.ntmps53
        go_wp2
        go_ret
        exact ⟨ret_int ((len_fin 24 (z := x / 65536 / 256) (by omega) (by omega) (by rw [len8_size]; omega)).trans (by have := s0.out; have := s1.out; omega)), rfl⟩
      · have e1 : IntKind.u8.wrap (x / 65536) = x / 65536 := by simp [IntKind.wrap, IntKind.bits, IntKind.signed]; omega
        have s0 := Lib.hid (shiftI (x := x) 16 65536 (by decide) (by omega))
        go_enter Tryd.func53, Tryd.ntmps53
        go_wp2
        go_ret
        exact ⟨ret_int ((len_fin 16 (z := x / 65536) (by omega) (by omega) (by rw [len8_size]; omega)).trans (by have := s0.out; omega)), rfl⟩
    · by_cases c2 : (256 : Int) ≤ x
      · have e1 : IntKind.u8.wrap (x / 256) = x / 256 := by simp [IntKind.wrap, IntKind.bits, IntKind.signed]; omega
        have s0 := Lib.hid (shiftI (x := x) 8 256 (by decide) (by omega))
        go_enter Tryd.func53, Tryd.ntmps53
        go_wp2
        go_ret
        exact ⟨ret_int ((len_fin 8 (z := x / 256) (by omega) (by omega) (by rw [len8_size]; omega)).trans (by have := s0.out; omega)), rfl⟩
      · have e1 : IntKind.u8.wrap (x) = x := by simp [IntKind.wrap, IntKind.bits, IntKind.signed]; omega
        go_enter Tryd.func53, Tryd.ntmps53
        go_wp2
        go_ret
        exact ⟨ret_int ((len_fin0 (z := x) (by omega) (by omega) (by rw [len8_size]; omega)).trans (by omega)), rfl⟩
end Go.Proofs.YthdghhfdbckilaaDoor
