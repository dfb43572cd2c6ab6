/-
  The reference of layer 12.
-/
import Derived.Test.YthdghhfdbckilaaDoorNet
import Derived.Test.YthdghhfdbckilaaDoorWords
import Derived.BigQuiet
import Derived.Deep.CutRange
import Derived.Deep.DeepCutAuto
import Derived.Deep.QuietTactic
import Derived.Deep.RegionLaw
import Derived.Lib.Hide
import Derived.Laws.AppendOwnNone
import Derived.RangeFuncBox
namespace Go.Proofs.YthdghhfdbckilaaDoor
open Go.RowKit
set_option maxRecDepth 100000
set_option linter.unusedVariables false
set_option linter.unusedSimpArgs false

/-- Whether there is a network for n: a power of two up to 4096. -/
def isN (n : Int) : Bool := (List.range 13).any fun r => n == (2 ^ r : Nat)
theorem isN_iff (n : Int) : isN n = true ↔ ∃ r, r ≤ 12 ∧ n = (2 ^ r : Nat) := by
  unfold isN
  rw [List.any_eq_true]
  constructor
  · rintro ⟨r, hr, h⟩
    exact ⟨r, by have := List.mem_range.1 hr; omega, by simpa using h⟩
  · rintro ⟨r, hr, h⟩
    exact ⟨r, List.mem_range.2 (by omega), by simpa using h⟩
theorem pow_le_4096 {r : Nat} (h : r ≤ 12) : 2 ^ r ≤ 4096 := Nat.pow_le_pow_right (by omega) h
theorem pow_dbl (r : Nat) : ((2 ^ (r + 1) : Nat) : Int) = (2 ^ r : Nat) * 2 := by rw [Nat.pow_succ]; push_cast; rfl
set_option maxHeartbeats 1000000 in
theorem ref12Is_any (n : Int) (w : World) (r : Bool) (hr : isN n = r) : Calls Tryd.prog 39 #[.int .i64 n] w fun e w' => e = .returned (.bool r) ∧ w' = w := by
  have HR := Lib.hid hr
  clear hr
  go_enter Tryd.func39, Tryd.ntmps39
  go_wp2
  go_loop [3] (fun k => ∃ a : Nat, k = .int .i64 (2 ^ a : Nat) ∧ a ≤ 13 ∧ ∀ b, b < a → n ≠ (2 ^ b : Nat)) (fun k => 8192 - (intOf k).toNat)
  case atStart => exact ⟨0, rfl, by omega, fun b h => by omega⟩
  case round =>
    obtain ⟨a, rfl, ha, hne⟩ := hrel
    have HN := Lib.hid hne
    clear hne
    by_cases hgo : a ≤ 12
    · have hp := pow_le_4096 hgo
      have hp0 : 0 < 2 ^ a := Nat.pos_of_neZero _
      have HD := Lib.hid (pow_dbl a)
      obtain ⟨x, hx⟩ : ∃ x : Nat, x = 2 ^ a := ⟨_, rfl⟩
      rw [← hx] at hp hp0 HD ⊢
      have HX := Lib.hid hx
      clear hx
      have hx1 : (x : Int) ≤ 4096 := by omega
      by_cases he : n = x
      · have hd : (n == (x : Int)) = true := by rw [beq_iff_eq]; exact he
        have HV := Lib.hid ((isN_iff n).2 ⟨a, hgo, by rw [← HX.out]; exact he⟩)
        clear he
        go_wp2
        go_ret
        exact ⟨by rw [← HR.out, HV.out]; rfl, rfl⟩
      · have hd : (n == (x : Int)) = false := by rw [beq_eq_false_iff_ne]; exact he
        have HE := Lib.hid he
        clear he
        go_wp2
        go_round
        case rel =>
          refine ⟨a + 1, by rw [HD.out], by omega, fun b hb => ?_⟩
          by_cases e : b = a
          · subst e; rw [← HX.out]; exact HE.out
          · exact HN.out b (by omega)
        case measure => simp [intOf]; omega
    · obtain rfl : a = 13 := by omega
      have HV := Lib.hid (show isN n = false by
        cases h : isN n with
        | false => rfl
        | true => obtain ⟨r, hr, e⟩ := (isN_iff n).1 h; exact absurd e (HN.out r (by omega)))
      go_wp2
      go_ret
      exact ⟨by rw [← HR.out, HV.out]; rfl, rfl⟩
/-- The exponent of the least power of two that is at least n. -/
def lgN (n : Int) : Nat := (List.range 13).findIdx fun r => decide (n ≤ (2 ^ r : Nat))
def sizeN (n : Int) : Int := if 1 ≤ n ∧ n ≤ 4096 then (2 ^ lgN n : Nat) else 0
theorem lgN_eq {n : Int} {r : Nat} (h1 : n ≤ (2 ^ r : Nat)) (h2 : ∀ b, b < r → ¬ n ≤ (2 ^ b : Nat)) (hr : r ≤ 12) : lgN n = r := by
  unfold lgN
  rw [List.findIdx_eq (by simp; omega)]
  refine ⟨by simpa using h1, fun j hj => ?_⟩
  have := h2 j hj
  simpa using this
set_option maxHeartbeats 1000000 in
theorem ref12Size_any (n : Int) (w : World) (r : Int) (hr : sizeN n = r) : Calls Tryd.prog 23 #[.int .i64 n] w fun e w' => e = .returned (.int .i64 r) ∧ w' = w := by
  have HR := Lib.hid hr
  clear hr
  by_cases h1 : 1 ≤ n
  · by_cases h2 : n ≤ 4096
    · have hd1 : decide (n < 1) = false := decide_eq_false (by omega)
      have hd2 : decide (4096 < n) = false := decide_eq_false (by omega)
      have HS := Lib.hid (show sizeN n = (2 ^ lgN n : Nat) by unfold sizeN; rw [if_pos ⟨h1, h2⟩])
      go_enter Tryd.func23, Tryd.ntmps23
      go_wp2
      go_loop [3] (fun k => ∃ a : Nat, k = .int .i64 (2 ^ a : Nat) ∧ a ≤ 12 ∧ ∀ b, b < a → ¬ n ≤ (2 ^ b : Nat)) (fun k => 8192 - (intOf k).toNat)
      case atStart => exact ⟨0, rfl, by omega, fun b h => by omega⟩
      case round =>
        obtain ⟨a, rfl, ha, hne⟩ := hrel
        have HN := Lib.hid hne
        clear hne
        have hp := pow_le_4096 ha
        have hp0 : 0 < 2 ^ a := Nat.pos_of_neZero _
        have HD := Lib.hid (pow_dbl a)
        have ha12 : (2 ^ a : Nat) < n → a ≤ 11 := fun h => by
          by_cases e : a = 12
          · subst e; simp at h; omega
          · omega
        obtain ⟨x, hx⟩ : ∃ x : Nat, x = 2 ^ a := ⟨_, rfl⟩
        rw [← hx] at hp hp0 HD ha12 ⊢
        have HX := Lib.hid hx
        clear hx
        by_cases hgo : (x : Int) < n
        · have ha11 := ha12 hgo
          clear ha12
          go_wp2
          go_round
          case rel =>
            refine ⟨a + 1, by rw [HD.out], by omega, fun b hb => ?_⟩
            by_cases e : b = a
            · subst e; rw [← HX.out]; omega
            · exact HN.out b (by omega)
          case measure => simp [intOf]; omega
        · have HL := Lib.hid (lgN_eq (n := n) (r := a) (by rw [← HX.out]; omega) HN.out ha)
          clear ha12
          go_wp2
          go_ret
          exact ⟨by rw [← HR.out, HS.out, HL.out, HX.out]; rfl, rfl⟩
    · have hd1 : decide (n < 1) = false := decide_eq_false (by omega)
      have hd2 : decide (4096 < n) = true := decide_eq_true (by omega)
      have HS := Lib.hid (show sizeN n = 0 by unfold sizeN; rw [if_neg (by omega)])
      go_enter Tryd.func23, Tryd.ntmps23
      go_wp2
      go_ret
      exact ⟨by rw [← HR.out, HS.out]; rfl, rfl⟩
  · have hd1 : decide (n < 1) = true := decide_eq_true (by omega)
    have HS := Lib.hid (show sizeN n = 0 by unfold sizeN; rw [if_neg (by omega)])
    go_enter Tryd.func23, Tryd.ntmps23
    go_wp2
    go_ret
    exact ⟨by rw [← HR.out, HS.out]; rfl, rfl⟩
theorem bit_eq {i j : Nat} (hi : i ≤ 100000) : ((wrap64 ((i : Int) / (j : Int))).tmod 2 == 1) = decide (i / j % 2 = 1) := by
  have e : (i : Int) / (j : Int) = ((i / j : Nat) : Int) := by simp
  have hle : i / j ≤ i := Nat.div_le_self _ _
  rw [e]
  generalize i / j = m at hle
  have hw : wrap64 (m : Int) = m := by simp [wrap64]; omega
  rw [hw, Int.tmod_eq_emod_of_nonneg (by omega), Bool.eq_iff_iff]
  simp
  omega
theorem ref12bit_any (i j : Nat) (hj : 0 < j) (hi : i ≤ 100000) (hj2 : j ≤ 100000) (w : World) (r : Bool) (hr : decide (i / j % 2 = 1) = r) : Calls Tryd.prog 40 #[.int .i64 i, .int .i64 j] w fun e w' => e = .returned (.bool r) ∧ w' = w := by
  have HR := Lib.hid hr
  clear hr
  have hj0 : (0 : Int) < j := by omega
  go_enter Tryd.func40, Tryd.ntmps40
  go_wp2
  go_ret
  exact ⟨by rw [bit_eq hi, HR.out]; rfl, rfl⟩
/-- The cells of a pair. -/
def pairC (c : Nat × Nat) : List Value := [.int .i64 c.1, .int .i64 c.2]
theorem pairs_len (cs : List (Nat × Nat)) : (cs.flatMap pairC).length = cs.length * 2 := by
  induction cs with
  | nil => rfl
  | cons c cs ih => rw [List.flatMap_cons, List.length_append, ih]; simp [pairC]; omega
theorem infoC : (Tryd.prog.info? 43).map (fun i => (i.zero, i.size, i.bytes)) = some (some (.agg #[.int .i64 0, .int .i64 0]), 2, 16) := by kernel_rfl
/-- A list of pairs of the call's own. -/
def RowC (base : Nat) (w0 w : World) (v : Value) (cs : List (Nat × Nat)) : Prop := w.ownsRow base 43 2 v cs.length (cs.flatMap pairC) ∧ Below base w0 w
theorem pair_cells (w : World) (c : Nat × Nat) (t : TypeId) (j : Nat) (u : Value) (h : (pairC c)[j]? = some u) : (w.alloc (.cells #[.int .i64 c.1, .int .i64 c.2] t)).cell? ((⟨w.heap.size, 0, none⟩ : Addr).add j) = some u := by
  match j, h with
  | 0, h => simp [pairC] at h; subst h; simp [go_sem, Addr.add]
  | 1, h => simp [pairC] at h; subst h; simp [go_sem, Addr.add]
/-- append of one pair. -/
theorem wp_app_pair {ops : Array Oper} {rest : List Oper} {o : Oper} {a : Act} {Q : Exit → Act → World → Prop} {w0 w : World} (hgd : o.guard = none) (s x : Operand)
    (ho : o.op = .call { callee := .builtin .append, args := #[s, x], argTypes := #[40, 40] }) (base : Nat) (v : Value) (cs : List (Nat × Nat)) (c : Nat × Nat) (hs : a.eval s = v) (hown : RowC base w0 w v cs) (hx : a.eval x = .slice (some ⟨w.heap.size, 0, none⟩) 1 1)
    (hl : cs.length ≤ 1000000) (hbase : base ≤ w.heap.size) (h : ∀ v' w', RowC base w0 w' v' (cs ++ [c]) → wpList Tryd.prog ops Q rest (a.put o.dst v') w') :
    wpList Tryd.prog ops Q (o :: rest) a (w.alloc (.cells #[.int .i64 c.1, .int .i64 c.2] 43)) := by
  obtain ⟨i0, hi, hz0, hz1, hz2⟩ := info_parts infoC
  have hb : Below base w0 (w.alloc (.cells #[.int .i64 c.1, .int .i64 c.2] 43)) := hown.2.alloc hbase _
  refine wpList_append_own _ hgd s x 40 ho base 43 i0 (.agg #[.int .i64 0, .int .i64 0]) 2 16 Tryd.underlying40 hi hz0 hz1 hz2 rfl (by decide) v cs.length (cs.flatMap pairC) hs (hown.1.alloc _) ⟨w.heap.size, 0, none⟩ 1 1 (pairC c) hx rfl (pair_cells w c _) (by intro u hu; simp [pairC] at hu; rcases hu with rfl | rfl <;> rfl)
    (by unfold maxLen; omega) (by omega) (by simp; omega) fun v' w' h1 h2 _ => h v' w' ⟨?_, hb.grown h2 (by simp; omega) (fun g hg => (World.ownsRow.lt hown.1 g hg).1)⟩
  rw [List.length_append, List.flatMap_append]
  simpa using h1
theorem compL_len (k j n : Nat) : (Net.compL k j n).length ≤ n := by
  unfold Net.compL
  exact Nat.le_trans (List.length_filterMap_le _ _) (by simp)
theorem jl_len (n k : Nat) : ∀ r, (Net.jl n k r).length ≤ r * n
  | 0 => by simp [Net.jl]
  | r + 1 => by
    unfold Net.jl
    rw [List.length_append, Nat.add_mul]
    have := compL_len k (2 ^ r) n
    have := jl_len n k r
    omega
theorem kl_len (n : Nat) : ∀ q, (Net.kl n q).length ≤ q * q * n
  | 0 => by simp [Net.kl]
  | q + 1 => by
    unfold Net.kl
    rw [List.length_append]
    have h1 := kl_len n q
    have h2 := jl_len n (2 ^ (q + 1)) (q + 1)
    have e : (q + 1) * (q + 1) * n = q * q * n + (q + 1) * n + q * n := by
      rw [show (q + 1) * (q + 1) = q * q + (q + 1) + q by rw [Nat.mul_add, Nat.add_mul]; omega, Nat.add_mul, Nat.add_mul]
    omega
theorem range_snoc_some {k j i : Nat} {c : Nat × Nat} (h : Net.cmpAt k j i = some c) : (List.range (i + 1)).filterMap (Net.cmpAt k j) = (List.range i).filterMap (Net.cmpAt k j) ++ [c] := by
  rw [List.range_succ, List.filterMap_append]; simp [h]
theorem range_snoc_none {k j i : Nat} (h : Net.cmpAt k j i = none) : (List.range (i + 1)).filterMap (Net.cmpAt k j) = (List.range i).filterMap (Net.cmpAt k j) := by
  rw [List.range_succ, List.filterMap_append]; simp [h]
/-- The half of a power, or none. -/
def hlf (b : Nat) : Nat := if b = 0 then 0 else 2 ^ (b - 1)
theorem hlf_succ (b : Nat) : hlf (b + 1) = 2 ^ b := by simp [hlf]
theorem pow_half (b : Nat) : 2 ^ b / 2 = hlf b := by
  unfold hlf
  split
  · rename_i h; subst h; rfl
  · rename_i h
    obtain ⟨c, rfl⟩ : ∃ c, b = c + 1 := ⟨b - 1, by omega⟩
    rw [Nat.pow_succ]; simp
set_option maxHeartbeats 8000000 in
theorem ref12Comparators_yes (q : Nat) (hq : q ≤ 12) (w : World) : Calls Tryd.prog 22 #[.int .i64 (2 ^ q : Nat)] w fun e w' => ∃ v, e = .returned v ∧ RowC w.heap.size w w' v (Net.comps q) := by
  have hp := pow_le_4096 hq
  have hp0 : 0 < 2 ^ q := Nat.pos_of_neZero _
  have HI := Lib.hid ((isN_iff _).2 ⟨q, hq, rfl⟩)
  have HK := Lib.hid (show ∀ a, (2 ^ (a + 1) : Nat) ≤ 2 ^ q ↔ a < q from fun a => ⟨fun h => by
    by_cases e : a < q
    · exact e
    · have := Nat.pow_lt_pow_right (a := 2) (by omega) (show q < a + 1 by omega); omega, fun h => Nat.pow_le_pow_right (by omega) h⟩)
  obtain ⟨N, hN⟩ : ∃ N : Nat, N = 2 ^ q := ⟨_, rfl⟩
  rw [← hN] at hp hp0 HI HK ⊢
  have HN := Lib.hid hN
  clear hN
  go_enter Tryd.func22, Tryd.ntmps22
  go_wp2_with (fail)
  refine (ref12Is_any _ w true HI.out).mono ?_
  rintro e w' ⟨rfl, hw'⟩
  obtain rfl := hw'.symm
  go_wp2
  go_loopw [3, 4] (fun v k wr => ∃ a : Nat, k = .int .i64 (2 ^ (a + 1) : Nat) ∧ a ≤ q ∧ RowC w.heap.size w wr v (Net.kl N a)) (fun _ k _ => 100000 - (intOf k).toNat)
  case atStart => exact ⟨0, rfl, Nat.zero_le _, World.ownsRow_nil _ _ _ _, Below.refl _ _⟩
  case round =>
    obtain ⟨a, rfl, ha, hrow⟩ := hrel
    have hp2 : 2 ^ (a + 1) ≤ 8192 := Nat.pow_le_pow_right (n := 2) (by omega) (show a + 1 ≤ 13 by omega)
    have hp3 : 2 ≤ 2 ^ (a + 1) := by have := Nat.pow_le_pow_right (n := 2) (by omega) (show 1 ≤ a + 1 by omega); simpa using this
    have HKa := Lib.hid (HK.out a)
    have HH := Lib.hid (pow_half (a + 1))
    have HD := Lib.hid (pow_dbl (a + 1))
    obtain ⟨K, hK⟩ : ∃ K : Nat, K = 2 ^ (a + 1) := ⟨_, rfl⟩
    rw [← hK] at hp2 hp3 HKa HH HD ⊢
    have HKK := Lib.hid hK
    clear hK
    by_cases hgo : a < q
    · have hle : (K : Int) ≤ N := by have := HKa.out.2 hgo; omega
      go_wp2
      go_loopw [3, 5] (fun v j wr => ∃ (b : Nat) (pre : List (Nat × Nat)), j = .int .i64 (hlf b : Nat) ∧ b ≤ a + 1 ∧ pre ++ Net.jl N K b = Net.jl N K (a + 1) ∧ RowC w.heap.size w wr v (Net.kl N a ++ pre)) (fun _ j _ => (intOf j).toNat)
      case atStart => exact ⟨a + 1, [], congrArg (Value.int .i64) (by rw [← HH.out]; simp), Nat.le_refl _, rfl, by rw [List.append_nil]; exact hrow⟩
      case round =>
        clear hrow
        obtain ⟨b, pre, rfl, hb, hpre, hrow⟩ := hrel
        cases b with
        | zero =>
          have HE := Lib.hid (show Net.kl N (a + 1) = Net.kl N a ++ pre by
            have h : pre = Net.jl N K (a + 1) := by rw [← hpre]; simp [Net.jl]
            rw [Net.kl, h, HKK.out])
          clear hpre
          have h0 : ((hlf 0 : Nat) : Int) = 0 := rfl
          rw [h0]
          go_wp2
          go_roundw
          case rel => exact ⟨a + 1, by rw [HD.out], by omega, by rw [HE.out]; exact hrow⟩
          case measure => simp [intOf]; omega
        | succ c =>
          have HP := Lib.hid hpre
          clear hpre
          have hJ1 : 0 < 2 ^ c := Nat.pos_of_neZero _
          have hJ2 : 2 ^ c ≤ 4096 := pow_le_4096 (by omega)
          have HC := Lib.hid (pow_half c)
          rw [hlf_succ]
          obtain ⟨J, hJ⟩ : ∃ J : Nat, J = 2 ^ c := ⟨_, rfl⟩
          rw [← hJ] at hJ1 hJ2 HC ⊢
          have HJ := Lib.hid hJ
          clear hJ
          have HLEN := Lib.hid (show ∀ i, i ≤ N → (Net.kl N a ++ pre ++ (List.range i).filterMap (Net.cmpAt K J)).length ≤ 1000000 from fun i hi => by
            have h1 := kl_len N a
            have h2 : pre.length ≤ (a + 1) * N := by
              have := jl_len N K (a + 1)
              rw [← HP.out, List.length_append] at this
              omega
            have h3 : ((List.range i).filterMap (Net.cmpAt K J)).length ≤ N := Nat.le_trans (List.length_filterMap_le _ _) (by simpa using hi)
            rw [List.length_append, List.length_append]
            have h4 : a * a * N ≤ 12 * 12 * 4096 := Nat.mul_le_mul (Nat.mul_le_mul (by omega) (by omega)) (by omega)
            have h5 : (a + 1) * N ≤ 13 * 4096 := Nat.mul_le_mul (by omega) (by omega)
            omega)
          have hJi : (1 : Int) ≤ J := by omega
          go_wp2
          go_loopw [3, 6] (fun v i wr => ∃ m : Nat, i = .int .i64 m ∧ m ≤ N ∧ RowC w.heap.size w wr v (Net.kl N a ++ pre ++ (List.range m).filterMap (Net.cmpAt K J))) (fun _ i _ => N - (intOf i).toNat)
          case atStart => exact ⟨0, rfl, Nat.zero_le _, by simpa using hrow⟩
          case round =>
            clear hrow
            obtain ⟨m, rfl, hm, hrow⟩ := hrel
            by_cases hmn : m < N
            · have hml := HLEN.out m hm
              obtain ⟨L0, hL0⟩ : ∃ L0, L0 = Net.kl N a ++ pre ++ (List.range m).filterMap (Net.cmpAt K J) := ⟨_, rfl⟩
              rw [← hL0] at hrow hml
              have HL0 := Lib.hid hL0
              clear hL0
              have hbs := hrow.2.size
              have hmi : (m : Int) < N := by omega
              go_wp2_with (fail)
              obtain ⟨r, hr⟩ : ∃ r, decide (m / J % 2 = 1) = r := ⟨_, rfl⟩
              refine (ref12bit_any m J hJ1 (by omega) (by omega) _ r hr).mono ?_
              rintro e w1 ⟨rfl, hw1⟩
              obtain rfl := hw1.symm
              cases r with
              | true =>
                have HS := Lib.hid (range_snoc_none (k := K) (j := J) (i := m) (by unfold Net.cmpAt; rw [if_pos (of_decide_eq_true hr)]))
                clear hr
                go_wp2
                go_roundw
                case rel => exact ⟨m + 1, by go_num, hmn, by rw [HS.out, ← HL0.out]; exact hrow⟩
                case measure => simp [intOf]; omega
              | false =>
                have hr1 := of_decide_eq_false hr
                clear hr
                have HR1 := Lib.hid hr1
                clear hr1
                go_wp2_with (fail)
                obtain ⟨r, hr⟩ : ∃ r, decide (m / K % 2 = 1) = r := ⟨_, rfl⟩
                refine (ref12bit_any m K (by omega) (by omega) (by omega) _ r hr).mono ?_
                rintro e w1 ⟨rfl, hw1⟩
                obtain rfl := hw1.symm
                cases r with
                | true =>
                  have HS := Lib.hid (range_snoc_some (k := K) (j := J) (i := m) (c := (m + J, m)) (by unfold Net.cmpAt; rw [if_neg HR1.out, if_pos (of_decide_eq_true hr)]))
                  clear hr
                  go_wp2_with (first
                    | (at_builtin; refine wp_app_pair rfl _ _ rfl w.heap.size _ L0 (m + J, m) rfl hrow rfl hml hbs ?_
                       intro v' w2 hrow2))
                  go_roundw
                  case rel => exact ⟨m + 1, by go_num, hmn, by rw [HS.out, ← List.append_assoc, ← HL0.out]; exact hrow2⟩
                  case measure => simp [intOf]; omega
                | false =>
                  have HS := Lib.hid (range_snoc_some (k := K) (j := J) (i := m) (c := (m, m + J)) (by unfold Net.cmpAt; rw [if_neg HR1.out, if_neg (of_decide_eq_false hr)]))
                  clear hr
                  go_wp2_with (first
                    | (at_builtin; refine wp_app_pair rfl _ _ rfl w.heap.size _ L0 (m, m + J) rfl hrow rfl hml hbs ?_
                       intro v' w2 hrow2))
                  go_roundw
                  case rel => exact ⟨m + 1, by go_num, hmn, by rw [HS.out, ← List.append_assoc, ← HL0.out]; exact hrow2⟩
                  case measure => simp [intOf]; omega
            · have HM := Lib.hid (show m = N by omega)
              have hmi : ¬ (m : Int) < N := by omega
              rw [HM.out] at hrow
              have HE := Lib.hid (show (pre ++ Net.compL K J N) ++ Net.jl N K c = Net.jl N K (a + 1) by
                rw [List.append_assoc, ← HP.out, HJ.out]; rfl)
              go_wp2
              go_roundw
              case rel => exact ⟨c, pre ++ Net.compL K J N, congrArg (Value.int .i64) (by rw [← HC.out]; simp), by omega, HE.out, by rw [← List.append_assoc]; exact hrow⟩
              case measure => simp [intOf]; omega
    · have hle : ¬ (K : Int) ≤ N := fun h => hgo (HKa.out.1 (by omega))
      have HA := Lib.hid (show a = q by omega)
      go_wp2
      go_ret
      exact ⟨_, rfl, by unfold Net.comps; rw [← HN.out, ← HA.out]; exact hrow⟩
end Go.Proofs.YthdghhfdbckilaaDoor
