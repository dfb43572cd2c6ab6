/-
  Contracts of package limb, first part: words for arguments and results; the helpers.
-/
import Derived.Test.YtehnpmkolabiaaaDoorRef03c
import Derived.Test.YtehnpmkolabiaaaDoorWords
import Derived.Test.YtehnpmkolabiaaaDoorLimbM
import Derived.Laws.CopyOwn
namespace Go.Proofs.YtehnpmkolabiaaaDoor
open Go.RowKit
set_option maxRecDepth 100000
set_option linter.unusedVariables false
set_option linter.unusedSimpArgs false

/-- The value is an empty slice. -/
def GivesNone (w : World) (e : Ending) (w' : World) : Prop := ∃ A c, e = .returned (.slice A 0 c) ∧ Below w.heap.size w w'
/-- The value is a slice of words, in memory of the call's own, which may be written. -/
def GivesF (w : World) (ls : List Int) (e : Ending) (w' : World) : Prop :=
  ∃ A c, e = .returned (.slice A ls.length c) ∧ ls.length ≤ c ∧ SlR w' (fun b => w.heap.size ≤ b) .u64 A ls ∧ (∀ b off, A = some ⟨b, off, none⟩ → ∀ j, j < ls.length → w'.frozen? ⟨b, off + j, none⟩ = false) ∧ Below w.heap.size w w'
/-- An integer that is handed over. -/
structure Arg (w : World) (A : Option Addr) (c : Nat) (ls : List Int) : Prop where
  sl : SlR w (fun _ => True) .u64 A ls
  us : Us ls
  cap : ls.length ≤ c
theorem Arg.next {w w' : World} {A : Option Addr} {c : Nat} {ls : List Int} (h : Arg w A c ls) (hb : Below w.heap.size w w') : Arg w' A c ls := ⟨h.sl.next hb, h.us, h.cap⟩

theorem isWidth_yes (n : Int) (w : World) (h1 : 1 ≤ n) (h8 : n ≤ 8) : Calls Tryd.prog 62 #[.int .i64 n] w fun e w' => e = .returned (.bool true) ∧ w' = w := by
  have t1 : decide (1 ≤ n) = true := decide_eq_true h1
  have t2 : decide (n ≤ 8) = true := decide_eq_true h8
  go_enter Tryd.func62, Tryd.ntmps62
  go_wp2
  go_ret
  exact ⟨rfl, rfl⟩
theorem isWidth_no (n : Int) (w : World) (h : n < 1 ∨ 8 < n) : Calls Tryd.prog 62 #[.int .i64 n] w fun e w' => e = .returned (.bool false) ∧ w' = w := by
  by_cases h1 : 1 ≤ n
  · have t1 : decide (1 ≤ n) = true := decide_eq_true h1
    have t2 : decide (n ≤ 8) = false := decide_eq_false (by omega)
    go_enter Tryd.func62, Tryd.ntmps62
    go_wp2
    go_ret
    exact ⟨rfl, rfl⟩
  · have t1 : decide (1 ≤ n) = false := decide_eq_false h1
    go_enter Tryd.func62, Tryd.ntmps62
    go_wp2
    go_ret
    exact ⟨rfl, rfl⟩
theorem isInteger_yes (A : Option Addr) (n c : Nat) (w : World) (h1 : 1 ≤ n) (h8 : n ≤ 8) : Calls Tryd.prog 48 #[.slice A n c] w fun e w' => e = .returned (.bool true) ∧ w' = w := by
  go_enter Tryd.func48, Tryd.ntmps48
  go_wp2_with (fail)
  refine (isWidth_yes _ _ (by omega) (by omega)).mono ?_
  rintro e w' ⟨rfl, hw1⟩
  obtain rfl := hw1.symm
  go_wp2
  go_ret
  exact ⟨rfl, rfl⟩
theorem isInteger_no (A : Option Addr) (n c : Nat) (w : World) (h : n < 1 ∨ 8 < n) : Calls Tryd.prog 48 #[.slice A n c] w fun e w' => e = .returned (.bool false) ∧ w' = w := by
  go_enter Tryd.func48, Tryd.ntmps48
  go_wp2_with (fail)
  refine (isWidth_no _ _ (by omega)).mono ?_
  rintro e w' ⟨rfl, hw1⟩
  obtain rfl := hw1.symm
  go_wp2
  go_ret
  exact ⟨rfl, rfl⟩
theorem oneWidth_yes (A B : Option Addr) (n m c d : Nat) (w : World) (h1 : 1 ≤ n) (h8 : n ≤ 8) (he : n = m) :
    Calls Tryd.prog 67 #[.slice A n c, .slice B m d] w fun e w' => e = .returned (.bool true) ∧ w' = w := by
  have t1 : ((n : Int) == (m : Int)) = true := by rw [beq_iff_eq]; omega
  have HE := Lib.hid he
  clear he
  go_enter Tryd.func67, Tryd.ntmps67
  go_wp2_with (fail)
  refine (isInteger_yes _ _ _ _ h1 h8).mono ?_
  rintro e w' ⟨rfl, hw1⟩
  obtain rfl := hw1.symm
  go_wp2
  go_ret
  exact ⟨rfl, rfl⟩
theorem oneWidth_no (A B : Option Addr) (n m c d : Nat) (w : World) (h : n < 1 ∨ 8 < n ∨ n ≠ m) :
    Calls Tryd.prog 67 #[.slice A n c, .slice B m d] w fun e w' => e = .returned (.bool false) ∧ w' = w := by
  by_cases hi : 1 ≤ n ∧ n ≤ 8
  · have t1 : ((n : Int) == (m : Int)) = false := by rw [beq_eq_false_iff_ne]; omega
    have h1 := hi.1
    have h8 := hi.2
    clear h hi
    go_enter Tryd.func67, Tryd.ntmps67
    go_wp2_with (fail)
    refine (isInteger_yes _ _ _ _ h1 h8).mono ?_
    rintro e w' ⟨rfl, hw1⟩
    obtain rfl := hw1.symm
    go_wp2
    go_ret
    exact ⟨rfl, rfl⟩
  · go_enter Tryd.func67, Tryd.ntmps67
    go_wp2_with (fail)
    refine (isInteger_no _ _ _ _ (by omega)).mono ?_
    rintro e w' ⟨rfl, hw1⟩
    obtain rfl := hw1.symm
    go_wp2
    go_ret
    exact ⟨rfl, rfl⟩
theorem above_any (A : Option Addr) (c : Nat) (la : List Int) (S : Nat → Prop) (w : World) (hw : Wts w) (ha : SlR w S .u64 A la) (hu : Us la) (l1 : 1 ≤ la.length) (l8 : la.length ≤ 1000) :
    Calls Tryd.prog 50 #[.slice A la.length c] w fun e w' => e = .returned (.int .u64 (mk (neg la))) ∧ ∃ n, w' = w.drewN n := by
  obtain ⟨b, off, rfl, _, hcell⟩ := ha.at_ (show la.length - 1 < la.length by omega)
  have HN := Lib.hid (neg_top hu l1)
  have hU := hu.at_ (show la.length - 1 < la.length by omega)
  go_enter Tryd.func50, Tryd.ntmps50
  go_wp2_with (fail)
  refine (wordFill_any _ hU _ hw).mono ?_
  rintro e w' ⟨rfl, n, rfl⟩
  go_wp2
  go_ret
  exact ⟨ret_int (by rw [HN.out]), n, rfl⟩
def UnionRel (W : World) (la : List Int) (o i : Value) (wr : World) : Prop :=
  ∃ (k : Nat) (u : Int), wr = W ∧ i = .int .i64 k ∧ o = .int .u64 u ∧ k ≤ la.length ∧ U u ∧ (u = 0 ↔ uv (la.take k) = 0)
theorem union_step {la : List Int} {k : Nat} {u : Int} (hu : Us la) (_hk : k < la.length) (h0 : U u) (h : u = 0 ↔ uv (la.take k) = 0) :
    U (bits .or .u64 u (dgt la k)) ∧ (bits .or .u64 u (dgt la k) = 0 ↔ uv (la.take (k + 1)) = 0) := by
  refine ⟨U_or h0 (hu.dgt k), ?_⟩
  rw [or_zero h0 (hu.dgt k), h, uv_take_dgt]
  have h1 := uv_nonneg (hu.take k)
  have h2 := (hu.dgt k).1
  have hp := M_pos k
  have h3 := Int.mul_nonneg (Int.le_of_lt hp) h2
  constructor
  · rintro ⟨a, b⟩; rw [a, b]; simp
  · intro e
    have a : uv (la.take k) = 0 := by omega
    have b : M k * dgt la k = 0 := by omega
    exact ⟨a, by rcases Int.mul_eq_zero.1 b with b' | b'; · omega
                 · exact b'⟩
theorem union_any (A : Option Addr) (c : Nat) (la : List Int) (S : Nat → Prop) (w : World) (ha : SlR w S .u64 A la) (hu : Us la) (l8 : la.length ≤ 1000) :
    Calls Tryd.prog 51 #[.slice A la.length c] w fun e w' => (∃ u, e = .returned (.int .u64 u) ∧ U u ∧ (u = 0 ↔ uv la = 0)) ∧ w' = w := by
  go_enter Tryd.func51, Tryd.ntmps51
  go_wp2
  go_loopw [3, 8] (fun o i wr => UnionRel w la o i wr) (fun _ i _ => la.length - (intOf i).toNat)
  case atStart => exact ⟨0, 0, rfl, rfl, rfl, Nat.zero_le _, U_zero, by simp [uv]⟩
  case round =>
    obtain ⟨k, u, rfl, rfl, rfl, hk, hU, hiff⟩ := hrel
    by_cases hgo : k < la.length
    · obtain ⟨b, off, rfl, _, hcell⟩ := ha.at_ hgo
      rw [← dgt_lt hgo] at hcell
      have HS := Lib.hid (union_step hu hgo hU hiff)
      have HA := Lib.hid ha
      clear hiff ha
      go_wp2
      go_roundw
      case rel => exact ⟨k + 1, _, rfl, by go_num, rfl, hgo, HS.out.1, HS.out.2⟩
      case measure => simp [intOf]; omega
    · have HF := Lib.hid (show (u = 0 ↔ uv la = 0) by rw [List.take_of_length_le (by omega)] at hiff; exact hiff)
      clear hiff
      go_wp2
      go_ret
      exact ⟨⟨u, rfl, hU, HF.out⟩, rfl⟩
end Go.Proofs.YtehnpmkolabiaaaDoor
