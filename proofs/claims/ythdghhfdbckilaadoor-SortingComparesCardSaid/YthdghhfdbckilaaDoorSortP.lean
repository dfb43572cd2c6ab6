/-
  Contracts of package sorting over the landed code: padded.
-/
import Derived.Test.YthdghhfdbckilaaDoorSortA
import Derived.Test.YthdghhfdbckilaaDoorCopy
import Derived.Test.YthdghhfdbckilaaDoorNetA
import Derived.Test.YthdghhfdbckilaaDoorNetR
import Derived.OwnWalk
namespace Go.Proofs.YthdghhfdbckilaaDoor
open Go.RowKit Go.Maps
set_option maxRecDepth 100000
set_option linter.unusedVariables false
set_option linter.unusedSimpArgs false

/-! ### Sizes -/
theorem lgN_fit {n : Int} (h1 : 1 ≤ n) (h2 : n ≤ 4096) : lgN n ≤ 12 ∧ n ≤ (2 ^ lgN n : Nat) := by
  unfold lgN
  have hex : ∃ x, x ∈ List.range 13 ∧ decide (n ≤ (2 ^ x : Nat)) = true := ⟨12, by simp, decide_eq_true (by omega)⟩
  have hlt := List.findIdx_lt_length_of_exists hex
  have hp := List.findIdx_getElem (w := hlt)
  rw [List.length_range] at hlt
  rw [List.getElem_range] at hp
  exact ⟨by omega, of_decide_eq_true hp⟩
theorem sizeN_fit {n : Nat} (h2 : n ≤ 4096) : ∃ N : Nat, sizeN n = N ∧ n ≤ N ∧ N ≤ 4096 ∧ ((n = 0 ∧ N = 0) ∨ ∃ q, q ≤ 12 ∧ N = 2 ^ q) := by
  by_cases h1 : 1 ≤ n
  · obtain ⟨hq, hn⟩ := lgN_fit (n := n) (by omega) (by omega)
    have hp := pow_le_4096 hq
    refine ⟨2 ^ lgN n, by unfold sizeN; rw [if_pos (by omega)], by omega, hp, .inr ⟨_, hq, rfl⟩⟩
  · obtain rfl : n = 0 := by omega
    exact ⟨0, rfl, Nat.le_refl _, by omega, .inl ⟨rfl, rfl⟩⟩
theorem isN_zero : isN (0 : Nat) = false := by decide
theorem compsN_le {N : Nat} (h : (N = 0) ∨ ∃ q, q ≤ 12 ∧ N = 2 ^ q) : (compsN N).length ≤ 400000 := by
  rcases h with rfl | ⟨q, hq, rfl⟩
  · unfold compsN; rw [isN_zero]; simp
  · have e : compsN (2 ^ q : Nat) = Net.comps q := by unfold compsN; rw [if_pos ((isN_iff _).2 ⟨q, hq, rfl⟩), lgN_pow hq]
    rw [e]
    obtain ⟨R, hR, hl, hL⟩ := Net.comps_rounds q
    have h2 := pow_le_4096 hq
    have h3 : ∀ (R : List (List (Nat × Nat))), (∀ L ∈ R, 2 * L.length = 2 ^ q ∧ Net.Once (2 ^ q) L) → R.flatten.length ≤ R.length * 2048 := fun R => by
      induction R with
      | nil => intro _; simp
      | cons L R ih =>
        intro h
        have h4 := ih fun L hL => h L (by simp [hL])
        have h5 := (h L (by simp)).1
        rw [List.flatten_cons, List.length_append, List.length_cons, Nat.succ_mul]
        omega
    rw [hR]
    have h4 := h3 R hL
    have h5 : q * (q + 1) ≤ 12 * 13 := Nat.mul_le_mul hq (by omega)
    omega
/-- The ranks of a list, and as many greatest ones as its network wants. -/
def padI (N : Nat) (l : List Rc) : List Int := ranks l ++ List.replicate (N - l.length) 18446744073709551616
theorem padI_len {N : Nat} {l : List Rc} (h : l.length ≤ N) : (padI N l).length = N := by unfold padI ranks; simp; omega
theorem padI_le {N : Nat} {l : List Rc} (h : UsR l) : ∀ x ∈ padI N l, 0 ≤ x ∧ x ≤ 18446744073709551616 := fun x hx => by
  unfold padI ranks at hx
  rcases List.mem_append.1 hx with hx | hx
  · obtain ⟨r, hr, rfl⟩ := List.mem_map.1 hx
    exact rank_le (h r hr).2
  · rw [(List.mem_replicate.1 hx).2]; omega
theorem padI_clean {N : Nat} {l : List Rc} (h : UsR l) : (padI N l).map unrank = (l ++ List.replicate (N - l.length) (⟨0, 0⟩ : Rc)).map cleanR := by
  unfold padI ranks
  rw [List.map_append, List.map_append, List.map_map, List.map_replicate, List.map_replicate]
  congr 1
  exact List.map_congr_left fun r hr => unrank_rank (h r hr).2
/-- What the network makes of it. -/
theorem net_pad {n N : Nat} {l : List Rc} (hn : n = l.length) (hN : n ≤ N) (hU : UsR l) (h : (n = 0 ∧ N = 0) ∨ ∃ q, q ≤ 12 ∧ N = 2 ^ q) :
    Net.Within N (compsN N) ∧ ((compsN N).foldl Net.cswap (padI N l)) = sortI (ranks l) ++ List.replicate (N - n) 18446744073709551616 := by
  have hpad : sortI (padI N l) = sortI (ranks l) ++ List.replicate (N - n) 18446744073709551616 := by
    rw [hn]
    unfold padI
    exact sortI_pad _ fun x hx => by
      obtain ⟨r, hr, rfl⟩ := List.mem_map.1 hx
      exact (rank_le (hU r hr).2).2
  rcases h with ⟨h0, rfl⟩ | ⟨q, hq, rfl⟩
  · have e : compsN (0 : Nat) = [] := by unfold compsN; rw [isN_zero]; rfl
    obtain rfl : l = [] := List.eq_nil_of_length_eq_zero (by omega)
    rw [e, h0]
    exact ⟨fun c hc => (by cases hc), by simp [padI, ranks, sortI]⟩
  · have e : compsN (2 ^ q : Nat) = Net.comps q := by unfold compsN; rw [if_pos ((isN_iff _).2 ⟨q, hq, rfl⟩), lgN_pow hq]
    have hl := padI_len (N := 2 ^ q) (l := l) (by omega)
    rw [e, ← hpad]
    exact ⟨Net.comps_within q, sortI_eq (Net.netL_sorted hl) (Net.netL_perm hl)⟩
/-! ### padded -/
def clnR (L : List Rc) (k : Nat) : List Rc := (L.take k).map cleanR ++ L.drop k
theorem clnR_len (L : List Rc) (k : Nat) : (clnR L k).length = L.length := by unfold clnR; simp; omega
theorem clnR_at (L : List Rc) {k : Nat} (h : k < L.length) (h2 : k < (clnR L k).length) : (clnR L k)[k] = L[k] := by
  have h3 : (clnR L k)[k]? = L[k]? := by
    unfold clnR
    rw [List.getElem?_append_right (by simp; omega)]
    simp [Nat.min_eq_left (Nat.le_of_lt h)]
  rw [List.getElem?_eq_getElem h2, List.getElem?_eq_getElem h] at h3
  exact Option.some.inj h3
theorem clnR_succ (L : List Rc) {k : Nat} (h : k < L.length) : (clnR L k).set k (cleanR L[k]) = clnR L (k + 1) := by
  unfold clnR
  have hl : ((L.take k).map cleanR).length = k := by simp; omega
  rw [List.set_append_right _ _ (by omega), hl, Nat.sub_self, List.drop_eq_getElem_cons h, List.set_cons_zero, List.take_succ_eq_append_getElem h, List.map_append]
  simp
theorem clnR_all (L : List Rc) : clnR L L.length = L.map cleanR := by unfold clnR; simp
def PadRel (w : World) (g N : Nat) (L : List Rc) (i : Value) (wr : World) : Prop :=
  ∃ k : Nat, i = .int .i64 k ∧ k ≤ N ∧ wr.ownsRow w.heap.size 24 2 (.slice (some ⟨g, 0, none⟩) N N) N ((clnR L k).flatMap rcC) ∧ Below w.heap.size w wr
set_option maxHeartbeats 2000000 in
theorem sortPadded_any (A : Option Addr) (n c N : Nat) (l : List Rc) (S : Nat → Prop) (w : World) (hw : Wts w) (ha : RowR w S 2 rcC A l) (hn : n = l.length) (hs : sizeN n = N) (hN : n ≤ N) (hl : N ≤ 4096) (hU : UsR l) :
    Calls Tryd.prog 35 #[.slice A n c] w fun e w' => ∃ g, e = .returned (.slice (some ⟨g, 0, none⟩) N N) ∧ w'.ownsRow w.heap.size 24 2 (.slice (some ⟨g, 0, none⟩) N N) N (((padI N l).map unrank).flatMap rcC) ∧ Below w.heap.size w w' := by
  obtain ⟨i0, hi, hz0, hz1, hz2⟩ := info_parts infoRc
  obtain ⟨L, hL⟩ : ∃ L, L = l ++ List.replicate (N - n) (⟨0, 0⟩ : Rc) := ⟨_, rfl⟩
  have HLL := Lib.hid (show L.length = N by rw [hL]; simp; omega)
  have HPC := Lib.hid (show L.map cleanR = (padI N l).map unrank by rw [padI_clean hU, hL, hn])
  have HUL := Lib.hid (show UsR L by
    intro r hr
    rw [hL] at hr
    rcases List.mem_append.1 hr with hr | hr
    · exact hU r hr
    · rw [(List.mem_replicate.1 hr).2]; exact ⟨U_zero, U_zero⟩)
  have HOV := Lib.hid (show over ((List.replicate N (⟨0, 0⟩ : Rc)).flatMap rcC) 0 (l.flatMap rcC) = (clnR L 0).flatMap rcC by
    have h1 : ((List.replicate N (⟨0, 0⟩ : Rc)).flatMap rcC) = (List.replicate n (⟨0, 0⟩ : Rc)).flatMap rcC ++ (List.replicate (N - n) (⟨0, 0⟩ : Rc)).flatMap rcC := by
      rw [← List.flatMap_append, List.replicate_append_replicate, Nat.add_sub_cancel' hN]
    have h2 : ((List.replicate n (⟨0, 0⟩ : Rc)).flatMap rcC).length = (l.flatMap rcC).length := by rw [flatC_len rcC_len, flatC_len rcC_len, List.length_replicate, hn]
    rw [over_all (by rw [h1, List.length_append]; omega), h1, ← h2, List.drop_left]
    unfold clnR
    rw [hL]
    simp)
  have HS := Lib.hid (fun w => netSize_p n N w hs)
  have HN := Lib.hid hn
  have HA := Lib.hid ha
  clear hL hs hn ha
  go_enter Tryd.func35, Tryd.ntmps35
  go_wp2_with (fail)
  refine (HS.out w).mono ?_
  rintro e w' ⟨rfl, hww⟩
  obtain rfl := hww.symm
  go_wp2_with (first
    | (at_make; refine wpList_make_full _ rfl _ _ 30 rfl w.heap.size 24 i0 _ 2 Tryd.underlying30 hi hz0 hz1 .i64 .i64 N N N rfl rfl rfl rfl (by rw [hz2]; omega) (by unfold maxLen; omega) (Nat.le_refl _) ?_
       intro w1 hrow1 hgr1
       have hb1 : Below w.heap.size w w1 := (Below.refl _ _).grown hgr1 (Nat.le_refl _) (fun k e => by cases e)
       rw [show (madeCells (Value.agg #[.int .u64 0, .int .u64 0]).cells (N * 2)).toList = (List.replicate N (⟨0, 0⟩ : Rc)).flatMap rcC from made_two rcC_len ⟨0, 0⟩ (.int .u64 0) (.int .u64 0) rfl N] at hrow1
       obtain ⟨W2, hcp, hrow2, hbb⟩ := copy_own elemRc w1 w.heap.size w.heap.size N N _ hrow1 A c n l S (HA.out.next hb1) HN.out hN
       have hb2 := hb1.trans (hbb w.heap.size (Nat.le_refl _))
       rw [HOV.out] at hrow2)
    | (at_builtin; refine wpList_copy_runI _ rfl _ _ 30 30 rfl _ _ rfl rfl (hcp _) ?_))
  go_loopw [15] (fun i wr => PadRel w w.heap.size N L i wr) (fun i _ => N - (intOf i).toNat)
  case atStart => exact ⟨0, rfl, Nat.zero_le _, hrow2, hb2⟩
  case round =>
    clear hcp hrow2 hbb hb2 hrow1 hgr1 hb1
    obtain ⟨k, rfl, hk, hrow, hb⟩ := hrel
    by_cases hgo : k < N
    · have hkL : k < L.length := by rw [HLL.out]; exact hgo
      have hkm : k < (clnR L k).length := by rw [clnR_len]; exact hkL
      obtain ⟨c0, c1, f0, f1⟩ := own_rec2 ((clnR_len L k).trans HLL.out) hrow hkm
      have HM := Lib.hid (clnR_succ L hkL)
      have HX := Lib.hid (HUL.out _ (List.getElem_mem hkL))
      rw [clnR_at L hkL hkm] at c0 c1
      have HROW := Lib.hid hrow
      generalize L[k] = X at c0 c1 HM HX
      obtain ⟨W, hW⟩ : ∃ W, W = wr.alloc (.cells #[.int .u64 X.live, .int .u64 X.id] 24) := ⟨_, rfl⟩
      obtain ⟨B, hB⟩ : ∃ B, B = wr.heap.size := ⟨_, rfl⟩
      have h0 : Below wr.heap.size wr W := by rw [hW]; exact (Below.refl _ _).alloc (Nat.le_refl _) _
      have k0 : W.cell? ⟨B, 0, none⟩ = some (.int .u64 X.live) := by rw [hW, hB]; simp [go_sem]
      have k1 : W.cell? ⟨B, 1, none⟩ = some (.int .u64 X.id) := by rw [hW, hB]; simp [go_sem]
      have hbW := hb.trans (h0.mono hb.size)
      have hwt := hw.below hbW
      have HW := Lib.hid hW
      have HB := Lib.hid hB
      clear hW hB hkL hkm hrow
      go_wp2_with (fail)
      rw [← HW.out, ← HB.out]
      refine (sortClean_c X W hwt HX.out).mono ?_
      rintro e w3 ⟨rfl, hb3⟩
      have h3 := h0.trans (hb3.mono h0.size)
      have hrow3 := row_keep (w' := w3) HROW.out fun g' hg' => h3.block g' (World.ownsRow.lt HROW.out g' hg').2
      have g0 : w3.cell? ⟨w.heap.size, k * 2, none⟩ = some _ := (h3.cell (lt_of_cell c0)).trans c0
      have g1 : w3.cell? ⟨w.heap.size, k * 2 + 1, none⟩ = some _ := (h3.cell (lt_of_cell c1)).trans c1
      have e0 : w3.frozen? ⟨w.heap.size, k * 2, none⟩ = false := World.ownsRow.frozenAt hrow3 _
      have e1 : w3.frozen? ⟨w.heap.size, k * 2 + 1, none⟩ = false := World.ownsRow.frozenAt hrow3 _
      have hrow4 := own_setR hrow3 k (cleanR X)
      have hb4 := ((hb.trans (h3.mono hb.size)).setCell (p := ⟨w.heap.size, k * 2, none⟩) (Nat.le_refl _) (.int .u64 (cleanR X).live)).setCell (p := ⟨w.heap.size, k * 2 + 1, none⟩) (Nat.le_refl _) (.int .u64 (cleanR X).id)
      rw [HM.out] at hrow4
      clear hrow3 h3 hb3 hbW hwt c0 c1 f0 f1 k0 k1 h0
      generalize cleanR X = Z at *
      go_wp2
      go_roundw
      case rel => exact ⟨k + 1, by go_num, hgo, hrow4, hb4⟩
      case measure => simp [intOf]; omega
    · have hke : k = N := by omega
      subst hke
      have HA2 := Lib.hid (show (clnR L k).flatMap rcC = ((padI k l).map unrank).flatMap rcC by rw [← HPC.out, ← clnR_all L, HLL.out])
      rw [HA2.out] at hrow
      go_wp2
      go_ret
      exact ⟨_, rfl, hrow, hb⟩
end Go.Proofs.YthdghhfdbckilaaDoor
