/-
  NetworkZeroOne: a row of ones and noughts is sorted.
-/
import Derived.Test.YthcckgehlfikcaaDoorLaw12
import Derived.IntWalk
namespace Go.Proofs.YthcckgehlfikcaaDoor
open Go.RowKit
set_option linter.unusedVariables false
set_option linter.unusedSimpArgs false
set_option maxRecDepth 100000

theorem infoU12 : (Tryd.prog.info? 38).map (fun i => (i.zero, i.size, i.bytes)) = some (some (.int .u64 0), 1, 8) := by kernel_rfl
theorem own_made12 (w : World) (n : Nat) (hn : n ≤ 1000) : OwnK (w.alloc (.cells (madeCells #[.int .u64 0] n) 38)) w.heap.size 38 .u64 (.slice (some ⟨w.heap.size, 0, none⟩) n n) (List.replicate n 0) := by
  have h := World.ownsRow_lit (e := 38) (size := 1) w (madeCells #[.int .u64 0] n) n (Nat.le_refl _) (by unfold maxLen; omega) (size_madeCells _ _ |>.trans (by simp))
  rw [toList_madeCells_one] at h
  unfold OwnK
  rw [List.length_replicate, List.map_replicate]
  exact h
/-- A sorted list of noughts and ones. -/
theorem zo_form : ∀ ys : List Int, (∀ y ∈ ys, y = 0 ∨ y = 1) → ys.Pairwise (· ≤ ·) → ∃ a b, ys = List.replicate a 0 ++ List.replicate b 1
  | [], _, _ => ⟨0, 0, rfl⟩
  | y :: ys, h, hs => by
    rw [List.pairwise_cons] at hs
    rcases h y (.head _) with rfl | rfl
    · obtain ⟨a, b, e⟩ := zo_form ys (fun z hz => h z (.tail _ hz)) hs.2
      exact ⟨a + 1, b, by rw [e]; rfl⟩
    · refine ⟨0, ys.length + 1, ?_⟩
      have : ys = List.replicate ys.length 1 := List.eq_replicate_iff.2 ⟨rfl, fun z hz => by have := hs.1 z hz; rcases h z (.tail _ hz) with rfl | rfl <;> omega⟩
      rw [List.replicate_succ, ← this]; rfl
theorem zo_at {a b k : Nat} (h : k < a + b) : dgt (List.replicate a 0 ++ List.replicate b 1) k = if a ≤ k then 1 else 0 := by
  unfold dgt
  by_cases hk : a ≤ k
  · rw [if_pos hk, List.getD_eq_getElem?_getD, List.getElem?_append_right (by simpa using hk)]
    rw [List.length_replicate, List.getElem?_replicate, if_pos (by omega)]; rfl
  · rw [if_neg hk, List.getD_eq_getElem?_getD, List.getElem?_append_left (by simp; omega), List.getElem?_replicate, if_pos (by omega)]; rfl
/-- The number of ones among the first k bits. -/
def zb (p : Int) (k : Nat) : Int := bits .and .u64 (p / 2 ^ k) 1
theorem zb_le {p : Int} (hp : U p) (k : Nat) : zb p k = 0 ∨ zb p k = 1 := by
  have hU : U (p / 2 ^ k) := by
    unfold U at *
    have : (0 : Int) < 2 ^ k := by exact Int.pow_pos (by omega)
    exact ⟨Int.ediv_nonneg hp.1 (by omega), Int.le_trans (Int.ediv_le_self _ hp.1) hp.2⟩
  unfold zb
  rw [bit_raw hU]
  omega
def zl (p : Int) (i : Nat) : List Int := (List.range i).map (zb p)
def zc (p : Int) (i : Nat) : Nat := (zl p i).count 1
theorem zl_len (p : Int) (i : Nat) : (zl p i).length = i := by simp [zl]
theorem zl_succ (p : Int) (i : Nat) : zl p (i + 1) = zl p i ++ [zb p i] := by simp [zl, List.range_succ]
theorem zc_succ {p : Int} (hp : U p) (i : Nat) : (zc p (i + 1) : Int) = zc p i + zb p i := by
  unfold zc
  rw [zl_succ, List.count_append]
  rcases zb_le hp i with h | h <;> rw [h] <;> simp
theorem zc_le (p : Int) (i : Nat) : zc p i ≤ i := Nat.le_trans List.count_le_length (by rw [zl_len]; exact Nat.le_refl _)
theorem zl_set (p : Int) {i n : Nat} (h : i < n) : (zl p i ++ List.replicate (n - i) 0).set i (zb p i) = zl p (i + 1) ++ List.replicate (n - (i + 1)) 0 := by
  obtain ⟨m, hm⟩ : ∃ m, n - i = m + 1 := ⟨n - i - 1, by omega⟩
  rw [hm, show n - (i + 1) = m by omega, zl_succ, List.set_append_right (h := by rw [zl_len]; exact Nat.le_refl _), zl_len, Nat.sub_self, List.replicate_succ, List.set_cons_zero, List.append_assoc]; rfl
set_option maxHeartbeats 8000000 in
theorem law_networkZeroOne (pattern power : Int) (w : World) (hw : Wts w) (hp : U pattern) (hp0 : 0 ≤ power) (hp1 : power < 256) : Calls Tryd.prog 6 #[.int .u64 pattern, .int .u8 power] w fun e w' => e = .returned (.bool true) ∧ Below w.heap.size w w' := by
  obtain ⟨n, hn, hn6, hN, hn1⟩ : ∃ n : Nat, wrap64 (2 ^ (power % 7).toNat) = (n : Int) ∧ n ≤ 64 ∧ isN n = true ∧ 1 ≤ n := by
    obtain ⟨r, hr⟩ : ∃ r, (power % 7).toNat = r := ⟨_, rfl⟩
    have hr6 : r < 7 := by omega
    rw [hr]
    refine ⟨2 ^ r, ?_, ?_, (isN_iff _).2 ⟨r, by omega, rfl⟩, Nat.pos_of_neZero _⟩
    · rcases r with _ | _ | _ | _ | _ | _ | _ | r <;> first | decide +kernel | omega
    · rcases r with _ | _ | _ | _ | _ | _ | _ | r <;> first | decide | omega
  have hmk := run_make_row' (P := Tryd.prog) 36 38 (.int .u64 0) 8 Tryd.underlying36 infoU12 rfl .i64 .i64 n (by omega) (by omega)
  have HN := Lib.hid hN
  clear hN
  go_enter Tryd.func6, Tryd.ntmps6
  go_wp2
  have hO0 := own_made12 w n (by omega)
  have hB0 : Below w.heap.size w (w.alloc (.cells (madeCells #[.int .u64 0] n) 38)) := (Below.refl _ _).alloc (Nat.le_refl _) _
  go_loopw [7, 19] (fun o i wr => ∃ k : Nat, i = .int .i64 k ∧ o = .int .i64 (zc pattern k) ∧ k ≤ n ∧ OwnK wr w.heap.size 38 .u64 (.slice (some ⟨w.heap.size, 0, none⟩) n n) (zl pattern k ++ List.replicate (n - k) 0) ∧ Below w.heap.size w wr) (fun _ i _ => n - (intOf i).toNat)
  case atStart => exact ⟨0, rfl, rfl, Nat.zero_le _, hO0, hB0⟩
  case round =>
    clear hO0 hB0 hmk
    obtain ⟨k, rfl, rfl, hk, hown, hbl⟩ := hrel
    have hlen : (zl pattern k ++ List.replicate (n - k) 0).length = n := by rw [List.length_append, zl_len, List.length_replicate]; omega
    have HO := Lib.hid hown
    have HL := Lib.hid hlen
    clear hown hlen
    by_cases hgo : k < n
    · have hco := HO.out.cell_ HL.out hgo
      have hfo := HO.out.frozen_ HL.out k
      go_wp2
      refine ⟨⟨k + 1, rfl, ?_, hgo, ?_, hbl.setCell (p := ⟨w.heap.size, k, none⟩) (Nat.le_refl _) _⟩, by simp [intOf]; omega⟩
      · show Value.int .i64 (wrap64 ((zc pattern k : Int) + wrap64 (zb pattern k))) = _
        rw [zc_succ hp]
        have hz := zc_le pattern k
        rcases zb_le hp k with h | h <;> rw [h]
        · rw [show wrap64 0 = 0 from by decide +kernel, IntWalk.wrap64_in _ (by omega)]
        · rw [show wrap64 1 = 1 from by decide +kernel, IntWalk.wrap64_in _ (by omega)]
      · have h5 := (HO.out.set_ HL.out k (zb pattern k)).1
        rw [zl_set _ hgo] at h5
        exact h5
    · have hown := HO.out
      clear HO HL
      obtain rfl : n = k := by omega
      rw [Nat.sub_self, List.replicate_zero, List.append_nil] at hown
      have hU : Us (zl pattern n) := by
        intro x hx
        obtain ⟨q, _, rfl⟩ := List.mem_map.1 hx
        rcases zb_le hp q with h | h <;> rw [h] <;> (unfold U; omega)
      obtain ⟨a, b, hys, hab, hb⟩ : ∃ a b, applyN (zl pattern n) = List.replicate a 0 ++ List.replicate b 1 ∧ a + b = n ∧ zc pattern n = b := by
        have hap := applyN_yes (xs := zl pattern n) (by rw [zl_len]; exact HN.out)
        obtain ⟨a, b, e⟩ := zo_form (applyN (zl pattern n)) (fun y hy => by
          obtain ⟨q, _, rfl⟩ := List.mem_map.1 (hap.2.mem_iff.1 hy)
          exact zb_le hp q) hap.1
        have hl := hap.2.length_eq
        have hc := hap.2.count_eq 1
        rw [e] at hl hc
        rw [zl_len, List.length_append, List.length_replicate, List.length_replicate] at hl
        refine ⟨a, b, e, hl, ?_⟩
        unfold zc
        rw [← hc, List.count_append, List.count_replicate_self, List.count_replicate]
        simp
      obtain ⟨A1, c1, hv, _, _, hsl⟩ := hown.form
      rw [zl_len] at hv
      injection hv with e1 e2 e3
      subst e1
      clear hown e2 e3
      rw [hb]
      go_wp2_with (fail)
      refine (netApply_c (some ⟨w.heap.size, 0, none⟩) n n (zl pattern n) _ wr (hw.below hbl) hsl (zl_len _ _).symm (by omega) hU).mono ?_
      rintro e w2 ⟨v2, rfl, hown2, hb2⟩
      rw [hys] at hown2
      have hl2 : (List.replicate a (0 : Int) ++ List.replicate b 1).length = n := by simp; omega
      obtain ⟨A2, c2, rfl, _, hA⟩ := hown2.slice_ hl2
      obtain ⟨g, rfl, _⟩ := hA (by omega)
      have HO2 := Lib.hid hown2
      have HL2 := Lib.hid hl2
      have HB := Lib.hid hb2
      clear hown2 hl2 hys hU hb hsl hb2
      go_wp2
      go_loopw [45] (fun i wr' => ∃ j : Nat, i = .int .i64 j ∧ j ≤ n ∧ wr' = w2) (fun i _ => n - (intOf i).toNat)
      case atStart => exact ⟨0, rfl, Nat.zero_le _, rfl⟩
      case round =>
        obtain ⟨j, rfl, hj, hwr⟩ := hrel
        obtain rfl := hwr.symm
        by_cases hjn : j < n
        · have hco := HO2.out.cell_ HL2.out hjn
          rw [zo_at (by omega)] at hco
          by_cases haj : a ≤ j
          · rw [if_pos haj] at hco
            go_wp2
            exact ⟨⟨j + 1, rfl, by omega, trivial⟩, by simp [intOf]; omega⟩
          · rw [if_neg haj] at hco
            go_wp2
            exact ⟨⟨j + 1, rfl, by omega, trivial⟩, by simp [intOf]; omega⟩
        · go_wp2_with (fail)
          refine (alive12_any _ (hw.below (hbl.trans (HB.out.mono hbl.size)))).mono ?_
          rintro e w3 ⟨rfl, hb3⟩
          have hend := hbl.trans ((HB.out.trans (hb3.mono HB.out.size)).mono hbl.size)
          go_wp2
          go_ret
          exact ⟨rfl, hend⟩
end Go.Proofs.YthcckgehlfikcaaDoor
