/-
  Contracts of package network over the landed code: the iterator All.
-/
import Derived.Test.YthdghhfdbckilaaDoorNetA
import Derived.Shelf.Abstract
import Derived.Shelf.RegionOpen
import Derived.WalkKit
import Derived.OwnWalkIn
import Derived.TacticsInMore
import Derived.LoopNIn
import Derived.LoopIn
import Derived.Scope
namespace Go.Proofs.YthdghhfdbckilaaDoor
open Go.RowKit Go.Shelf
set_option maxRecDepth 100000
set_option linter.unusedVariables false
set_option linter.unusedSimpArgs false
attribute [local go_sem] Oper.semAt_some

/-- What the iterator reads between two rounds. -/
def PreN (bn : Nat) (n : Int) (W : World) : Prop := ∀ p ∈ [(bn, Obj.cells #[.int .i64 n] 3)], W.heap[p.1]? = some p.2
theorem PreN.cell {bn : Nat} {n : Int} {W : World} (h : PreN bn n W) : W.cell? ⟨bn, 0, none⟩ = some (.int .i64 n) := (cells_one (h _ (.head _))).1
theorem cmpV_mid {cs pre : List (Nat × Nat)} {c : Nat × Nat} (h : pre ++ [c] <+: cs) : pre.length < cs.length ∧ cmpV cs pre.length = .agg #[.int .i64 (c.1 : Nat), .int .i64 (c.2 : Nat)] := by
  obtain ⟨R, rfl⟩ := h
  have e : (pre ++ [c] ++ R).getD pre.length (0, 0) = c := by simp
  exact ⟨by simp, by unfold cmpV; rw [e]⟩
theorem kl_prefix (N : Nat) : ∀ {a q : Nat}, a ≤ q → Net.kl N a <+: Net.kl N q
  | a, 0, h => by cases (Nat.le_zero.1 h); exact List.prefix_refl _
  | a, q + 1, h => by
    by_cases e : a = q + 1
    · subst e; exact List.prefix_refl _
    · exact (kl_prefix N (by omega : a ≤ q)).trans (by rw [Net.kl]; exact List.prefix_append _ _)
theorem range_prefix (f : Nat → Option (Nat × Nat)) {m n : Nat} (h : m ≤ n) : (List.range m).filterMap f <+: (List.range n).filterMap f := by
  obtain ⟨d, rfl⟩ : ∃ d, n = m + d := ⟨n - m, by omega⟩
  rw [List.range_add, List.filterMap_append]
  exact List.prefix_append _ _
set_option maxHeartbeats 4000000 in
theorem netSeq_yes (q : Nat) (hq : q ≤ 12) (n : Int) (hn : n = (2 ^ q : Nat)) (bn : Nat) :
    Yields Fence.wide 8 Tryd.prog 47 #[.pointer (some ⟨bn, 0, none⟩)] (fun k => #[cmpV (Net.comps q) k]) (Net.comps q).length (fun _ W => PreN bn n W) (fun _ W W' => Below W.heap.size W W') (fun W W' => Below W.heap.size W W') := fun r J Jx W hP hY h0 => by
  have hp := pow_le_4096 hq
  have hp0 : 0 < 2 ^ q := Nat.pos_of_neZero _
  have HI := Lib.hid (hn ▸ (isN_iff _).2 ⟨q, hq, rfl⟩ : isN n = true)
  have HK := Lib.hid (show ∀ a, (2 ^ (a + 1) : Nat) ≤ 2 ^ q ↔ a < q from fun a => ⟨fun h => by
    by_cases e : a < q
    · exact e
    · have := Nat.pow_lt_pow_right (a := 2) (by omega) (show q < a + 1 by omega); omega, fun h => Nat.pow_le_pow_right (by omega) h⟩)
  obtain ⟨N, hN⟩ : ∃ N : Nat, N = 2 ^ q := ⟨_, rfl⟩
  rw [← hN] at hp hp0 HK hn
  have HN := Lib.hid hN
  have HCS := Lib.hid (show Net.comps q = Net.kl N q by unfold Net.comps; rw [hN])
  clear hN
  subst hn
  obtain ⟨cs, hcs⟩ : ∃ cs, cs = Net.comps q := ⟨_, rfl⟩
  rw [← hcs] at HCS hY ⊢
  clear hcs
  refine callsIn_of_wp Tryd.func47 rfl trivial ?_ rfl
  simp only [Tryd.ntmps47, List.size_toArray, List.length_cons, List.length_nil, Nat.reduceAdd, Nat.reduceSub, Array.replicate_succ, Array.replicate_zero, List.push_toArray, List.append_toArray, List.nil_append, List.cons_append]
  have c0 := (hP 0 W h0).cell
  refine wpIn_wide.2 (wp_scope_straight ((wpIn_wide (n := 8)).1 ?_))
  gi_wp2_with (fail)
  refine ⟨trivial, (callsIn_wide.2 (exists_any _ W true HI.out)).mono ?_⟩
  rintro e w' ⟨rfl, hw'⟩
  obtain rfl := hw'.symm
  gi_wp2
  refine wpIn_label ?_
  gi_wp2
  gi_loopw [3] (fun k wr => ∃ a : Nat, k = .int .i64 (2 ^ (a + 1) : Nat) ∧ a ≤ q ∧ J (Net.kl N a).length wr) (fun k _ => 100000 - (intOf k).toNat)
  case atStart => exact ⟨0, rfl, Nat.zero_le _, h0⟩
  case round =>
    clear c0 h0
    obtain ⟨a, rfl, ha, hJ⟩ := hrel
    have c0 := (hP _ _ hJ).cell
    have hp2 : 2 ^ (a + 1) ≤ 8192 := Nat.pow_le_pow_right (n := 2) (by omega) (show a + 1 ≤ 13 by omega)
    have hp3 : 2 ≤ 2 ^ (a + 1) := by have := Nat.pow_le_pow_right (n := 2) (by omega) (show 1 ≤ a + 1 by omega); simpa using this
    have HKa := Lib.hid (HK.out a)
    have HH := Lib.hid (pow_half (a + 1))
    have HD := Lib.hid (pow_dbl (a + 1))
    obtain ⟨K, hK⟩ : ∃ K : Nat, K = 2 ^ (a + 1) := ⟨_, rfl⟩
    rw [← hK] at hp2 hp3 HKa HH HD ⊢
    have HKK := Lib.hid hK
    clear hK
    by_cases hgo : a < q
    · have hle : (K : Int) ≤ N := by have := HKa.out.2 hgo; omega
      gi_wp2
      gi_loopw [4] (fun j wr => ∃ (b : Nat) (pre : List (Nat × Nat)), j = .int .i64 (hlf b : Nat) ∧ b ≤ a + 1 ∧ pre ++ Net.jl N K b = Net.jl N K (a + 1) ∧ J (Net.kl N a ++ pre).length wr) (fun j _ => (intOf j).toNat)
      case atStart => exact ⟨a + 1, [], congrArg (Value.int .i64) (by rw [← HH.out]; simp), Nat.le_refl _, rfl, by rw [List.append_nil]; exact hJ⟩
      case round =>
        clear hJ c0
        obtain ⟨b, pre, rfl, hb, hpre, hJ⟩ := hrel
        cases b with
        | zero =>
          have HE := Lib.hid (show Net.kl N (a + 1) = Net.kl N a ++ pre by
            have h : pre = Net.jl N K (a + 1) := by rw [← hpre]; simp [Net.jl]
            rw [Net.kl, h, HKK.out])
          clear hpre
          have h0 : ((hlf 0 : Nat) : Int) = 0 := rfl
          rw [h0]
          gi_wp2
          go_roundw
          case rel => exact ⟨a + 1, by rw [HD.out], by omega, by rw [HE.out]; exact hJ⟩
          case measure => simp [intOf]; omega
        | succ c =>
          have HP := Lib.hid hpre
          clear hpre
          have hJ1 : 0 < 2 ^ c := Nat.pos_of_neZero _
          have hJ2 : 2 ^ c ≤ 4096 := pow_le_4096 (by omega)
          have HC := Lib.hid (pow_half c)
          have HX := Lib.hid (xor_pow c)
          rw [hlf_succ]
          obtain ⟨L, hL⟩ : ∃ L : Nat, L = 2 ^ c := ⟨_, rfl⟩
          rw [← hL] at hJ1 hJ2 HC HX ⊢
          have HL := Lib.hid hL
          clear hL
          have hJi : (1 : Int) ≤ L := by omega
          have c0 := (hP _ _ hJ).cell
          gi_wp2
          gi_loopw [22] (fun i wr => ∃ m : Nat, i = .int .i64 m ∧ m ≤ N ∧ J (Net.kl N a ++ pre ++ (List.range m).filterMap (Net.cmpAt K L)).length wr) (fun i _ => N - (intOf i).toNat)
          case atStart => exact ⟨0, rfl, Nat.zero_le _, by simpa using hJ⟩
          case round =>
            clear hJ c0
            obtain ⟨m, rfl, hm, hJ⟩ := hrel
            by_cases hmn : m < N
            · have hmi : (m : Int) < N := by omega
              have hx : bits .xor .i64 (m : Int) (L : Int) = ((m ^^^ L : Nat) : Int) := xor_i (by omega) hJ2
              have hx2 := HX.out m
              have HX1 := Lib.hid hx
              clear hx
              obtain ⟨P0, hP0⟩ : ∃ P0, P0 = Net.kl N a ++ pre ++ (List.range m).filterMap (Net.cmpAt K L) := ⟨_, rfl⟩
              rw [← hP0] at hJ
              have HP0 := Lib.hid hP0
              clear hP0
              by_cases hbit : m / L % 2 = 0
              · rw [if_pos hbit] at hx2
                have HF := Lib.hid (range_snoc_some (cmpAt_some (K := K) hbit))
                have hx : bits .xor .i64 (m : Int) (L : Int) = ((m + L : Nat) : Int) := by rw [HX1.out, hx2]
                clear hx2
                obtain ⟨d, hd⟩ : ∃ d, cmpP m (m + L) K = d := ⟨_, rfl⟩
                have HF2 := Lib.hid (show Net.kl N a ++ pre ++ (List.range (m + 1)).filterMap (Net.cmpAt K L) = P0 ++ [d] by rw [HF.out, HP0.out, hd, ← List.append_assoc])
                have hpf : P0 ++ [d] <+: cs := by
                  rw [HCS.out, ← HF2.out]
                  refine List.IsPrefix.trans ?_ (kl_prefix N (show a + 1 ≤ q by omega))
                  rw [Net.kl, List.append_assoc, ← HKK.out]
                  refine (List.prefix_append_right_inj _).2 ?_
                  rw [← HP.out, Net.jl, ← HL.out]
                  exact (List.prefix_append_right_inj _).2 ((range_prefix _ (show m + 1 ≤ N by omega)).trans (List.prefix_append _ _))
                obtain ⟨hlt, hcv⟩ := cmpV_mid hpf
                have hml : (m : Int) < ((m + L : Nat) : Int) := by omega
                obtain ⟨p, hpe⟩ : ∃ p : Nat, p = m + L := ⟨_, rfl⟩
                rw [← hpe] at hx hml hd
                clear hpe hpf
                gi_wp2_with (fail)
                refine ⟨trivial, (callsIn_wide.2 (comparator_any m p K (a + 1) HKK.out (by omega) (by omega) d hd _)).mono ?_⟩
                rintro e w1 ⟨rfl, hb1⟩
                obtain ⟨fn, tmps, assign, body, hy, hR⟩ := hY _ wr w1 hlt hJ hb1
                rw [hcv] at hy
                gi_wp2_with (fail)
                refine hR.mono ?_
                rintro e W3 (⟨rfl, hJ3⟩ | ⟨rfl, hx3⟩)
                · gi_wp2
                  go_roundw
                  case rel => exact ⟨m + 1, by go_num, hmn, by rw [HF2.out, List.length_append]; exact hJ3⟩
                  case measure => simp [intOf]; omega
                · gi_wp2
                  simp only [Exit.noGoto]
                  go_end0
                  exact ⟨⟨_, rfl⟩, .inr ⟨_, hx3, Below.refl _ _⟩⟩
              · rw [if_neg hbit] at hx2
                have HF := Lib.hid (range_snoc_none (k := K) (j := L) (i := m) (by unfold Net.cmpAt; rw [if_pos (by omega)]))
                have hge : L ≤ m := by
                  by_cases e : L ≤ m
                  · exact e
                  · rw [Nat.div_eq_of_lt (by omega)] at hbit; simp at hbit
                have hx : bits .xor .i64 (m : Int) (L : Int) = ((m - L : Nat) : Int) := by rw [HX1.out, hx2]
                have hml : ¬ (m : Int) < ((m - L : Nat) : Int) := by omega
                obtain ⟨p, hpe⟩ : ∃ p : Nat, p = m - L := ⟨_, rfl⟩
                rw [← hpe] at hx hml
                clear hpe hx2
                gi_wp2
                refine ⟨trivial, ?_⟩
                gi_wp2
                refine ⟨fun f h => (Option.some_ne_none f h.symm).elim, ?_⟩
                gi_wp2
                go_roundw
                case rel => exact ⟨m + 1, by go_num, hmn, by rw [HF.out, ← HP0.out]; exact hJ⟩
                case measure => simp [intOf]; omega
            · have HM := Lib.hid (show m = N by omega)
              have hmi : ¬ (m : Int) < N := by omega
              rw [HM.out] at hJ
              have HE := Lib.hid (show (pre ++ Net.compL K L N) ++ Net.jl N K c = Net.jl N K (a + 1) by
                rw [List.append_assoc, ← HP.out, HL.out]; rfl)
              gi_wp2
              go_roundw
              case rel => exact ⟨c, pre ++ Net.compL K L N, congrArg (Value.int .i64) (by rw [← HC.out]; simp), by omega, HE.out, by rw [← List.append_assoc]; exact hJ⟩
              case measure => simp [intOf]; omega
    · have hle : ¬ (K : Int) ≤ N := fun h => hgo (HKa.out.1 (by omega))
      have HA := Lib.hid (show a = q by omega)
      gi_wp2
      go_end0
      exact ⟨⟨_, rfl⟩, .inl ⟨_, by rw [HCS.out, ← HA.out]; exact hJ, Below.refl _ _⟩⟩
set_option maxHeartbeats 1000000 in
theorem netSeq_no (n : Int) (hn : isN n = false) (bn : Nat) :
    Yields Fence.wide 8 Tryd.prog 47 #[.pointer (some ⟨bn, 0, none⟩)] (fun k => #[cmpV [] k]) ([] : List (Nat × Nat)).length (fun _ W => PreN bn n W) (fun _ W W' => Below W.heap.size W W') (fun W W' => Below W.heap.size W W') := fun r J Jx W hP hY h0 => by
  refine callsIn_of_wp Tryd.func47 rfl trivial ?_ rfl
  simp only [Tryd.ntmps47, List.size_toArray, List.length_cons, List.length_nil, Nat.reduceAdd, Nat.reduceSub, Array.replicate_succ, Array.replicate_zero, List.push_toArray, List.append_toArray, List.nil_append, List.cons_append]
  have c0 := (hP 0 W h0).cell
  refine wpIn_wide.2 (wp_scope_straight ((wpIn_wide (n := 8)).1 ?_))
  gi_wp2_with (fail)
  refine ⟨trivial, (callsIn_wide.2 (exists_any _ W false hn)).mono ?_⟩
  rintro e w' ⟨rfl, hw'⟩
  obtain rfl := hw'.symm
  gi_wp2
  simp only [Exit.noGoto]
  refine bodyPost_ret (results_none rfl _ _ _) rfl ?_
  exact ⟨⟨_, rfl⟩, .inl ⟨_, h0, Below.refl _ _⟩⟩
theorem netAll_c (n : Int) (w : World) : Calls Tryd.prog 36 #[.int .i64 n] w fun e w' => ∃ v, e = .returned v ∧ SeqC w' w.heap.size v (compsN n) ∧ Below w.heap.size w w' := by
  have hseq : Yields Fence.wide 8 Tryd.prog 47 #[.pointer (some ⟨w.heap.size, 0, none⟩)] (fun k => #[cmpV (compsN n) k]) (compsN n).length (fun _ W => PreN w.heap.size n W) (fun _ W W' => Below W.heap.size W W') (fun W W' => Below W.heap.size W W') := by
    cases hb : isN n with
    | true =>
      obtain ⟨q, hq, hn⟩ := (isN_iff n).1 hb
      have e : compsN n = Net.comps q := by unfold compsN; rw [if_pos hb, hn, lgN_pow hq]
      rw [e]
      exact netSeq_yes q hq n hn _
    | false =>
      have e : compsN n = [] := by unfold compsN; rw [hb]; rfl
      rw [e]
      exact netSeq_no n hb _
  have HS := Lib.hid hseq
  clear hseq
  go_enter Tryd.func36, Tryd.ntmps36
  go_wp2
  go_ret
  exact ⟨_, rfl, ⟨_, _, [(w.heap.size, .cells #[.int .i64 n] 3)], rfl, enters_of Tryd.func47 (by kernel_rfl) rfl, fun p hp => by
    obtain rfl := List.mem_singleton.1 hp
    exact ⟨Nat.le_refl _, heap_alloc_new _ _⟩, HS.out⟩, (Below.refl _ _).alloc (Nat.le_refl _) _⟩
end Go.Proofs.YthdghhfdbckilaaDoor
