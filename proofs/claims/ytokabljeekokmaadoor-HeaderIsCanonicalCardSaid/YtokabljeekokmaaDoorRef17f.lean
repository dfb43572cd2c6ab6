/-
  The reference of layer 17: Format. (Written by ref17.py.)
-/
import Derived.Test.YtokabljeekokmaaDoorRef17
import Derived.Test.YtokabljeekokmaaDoorBy
namespace Go.Proofs.YtokabljeekokmaaDoor
open Go.RowKit Go.Maps
set_option maxRecDepth 100000
set_option linter.unusedVariables false
set_option linter.unusedSimpArgs false

theorem fe_op {h : Hq} {p : Bool} (h1 : h.op < 1 ∨ 5 < h.op) : formErr h p = 5 := by unfold formErr; rw [if_pos h1]
theorem fe_3 {h : Hq} {p : Bool} (h1 : h.op = 3) (h2 : h.vs < 3 ∨ 64 < h.vs) : formErr h p = 6 := by unfold formErr; rw [if_neg (by omega), if_pos ⟨h1, h2⟩]
/-- Behind the checks of one's own. -/
def feU (h : Hq) (p : Bool) : Int := if unusedH h = true then 2 else if p = true then 2 else 0
theorem fe_12 {h : Hq} {p : Bool} (h1 : 1 ≤ h.op ∧ h.op < 3) : formErr h p = feU h p := by
  unfold formErr; rw [if_neg (by omega), if_neg (by omega), if_neg (by omega), if_neg (by omega), if_neg (by omega)]; rfl
theorem fe_3u {h : Hq} {p : Bool} (h1 : h.op = 3) (h2 : 3 ≤ h.vs ∧ h.vs ≤ 64) : formErr h p = feU h p := by
  unfold formErr; rw [if_neg (by omega), if_neg (by omega), if_neg (by omega), if_neg (by omega), if_neg (by omega)]; rfl
theorem fe_len {h : Hq} {p : Bool} (h1 : 4 ≤ h.op ∧ h.op ≤ 5) (h2 : h.ks.length < 1 ∨ 64 < h.ks.length) : formErr h p = 6 := by
  unfold formErr; rw [if_neg (by omega), if_neg (by omega), if_pos (by omega)]
theorem fe_bad {h : Hq} {p : Bool} (h1 : 4 ≤ h.op ∧ h.op ≤ 5) (h2 : 1 ≤ h.ks.length ∧ h.ks.length ≤ 64) (h3 : anyBad h.ks = true) : formErr h p = 7 := by
  unfold formErr; rw [if_neg (by omega), if_neg (by omega), if_neg (by omega), if_pos ⟨h1.1, h3⟩]
theorem fe_4u {h : Hq} {p : Bool} (h1 : h.op = 4) (h2 : 1 ≤ h.ks.length ∧ h.ks.length ≤ 64) (h3 : anyBad h.ks = false) : formErr h p = feU h p := by
  unfold formErr; rw [if_neg (by omega), if_neg (by omega), if_neg (by omega), if_neg (by rw [h3]; simp), if_neg (by omega)]; rfl
theorem fe_5p {h : Hq} {p : Bool} (h1 : h.op = 5) (h2 : 1 ≤ h.ks.length ∧ h.ks.length ≤ 64) (h3 : anyBad h.ks = false) (h4 : h.pts < 1 ∨ 4096 < h.pts) : formErr h p = 6 := by
  unfold formErr; rw [if_neg (by omega), if_neg (by omega), if_neg (by omega), if_neg (by rw [h3]; simp), if_pos ⟨h1, h4⟩]
theorem fe_5u {h : Hq} {p : Bool} (h1 : h.op = 5) (h2 : 1 ≤ h.ks.length ∧ h.ks.length ≤ 64) (h3 : anyBad h.ks = false) (h4 : 1 ≤ h.pts ∧ h.pts ≤ 4096) : formErr h p = feU h p := by
  unfold formErr; rw [if_neg (by omega), if_neg (by omega), if_neg (by omega), if_neg (by rw [h3]; simp), if_neg (by omega)]; rfl
theorem feU_2 {h : Hq} {p : Bool} (h1 : ¬ ((h.op ≠ 3 → h.vs = 0) ∧ (h.op < 4 → h.ks.length = 0) ∧ (h.op ≠ 5 → h.pts = 0))) : feU h p = 2 := by
  unfold feU
  have : unusedH h = true := by
    by_cases e : unusedH h = false
    · exact absurd ((unused_iff h).1 e) h1
    · simpa using e
  rw [if_pos this]
theorem feU_p {h : Hq} {p : Bool} (h1 : (h.op ≠ 3 → h.vs = 0) ∧ (h.op < 4 → h.ks.length = 0) ∧ (h.op ≠ 5 → h.pts = 0)) : feU h p = if p = true then 2 else 0 := by
  unfold feU
  rw [(unused_iff h).2 h1]; rfl
theorem rgP_nil : rgP [] = false := rfl
theorem any_snoc {rs : List Rg} {k : Nat} (h : k < rs.length) : anyBad ((rs.take (k + 1)).map rgK) = (anyBad ((rs.take k).map rgK) || decide (sizeF (rs[k]).v = 0)) := by
  unfold anyBad
  rw [List.take_succ_eq_append_getElem h, List.map_append, List.any_append]; simp [rgK]
theorem rgP_snoc {rs : List Rg} {k : Nat} (h : k < rs.length) : rgP (rs.take (k + 1)) = (rgP (rs.take k) || decide (0 < (rs[k]).l.length)) := by
  unfold rgP
  rw [List.take_succ_eq_append_getElem h, List.any_append]; simp
theorem any_of_take {rs : List Rg} {k : Nat} (h : anyBad ((rs.take k).map rgK) = true) : anyBad (rs.map rgK) = true := by
  unfold anyBad at h ⊢
  rw [List.any_eq_true] at h ⊢
  obtain ⟨x, hx, hb⟩ := h
  obtain ⟨r, hr, rfl⟩ := List.mem_map.1 hx
  exact ⟨_, List.mem_map.2 ⟨r, List.mem_of_mem_take hr, rfl⟩, hb⟩
theorem rgP_of_take {rs : List Rg} {k : Nat} (h : rgP (rs.take k) = true) : rgP rs = true := by
  unfold rgP at h ⊢
  rw [List.any_eq_true] at h ⊢
  obtain ⟨x, hx, hb⟩ := h
  exact ⟨x, List.mem_of_mem_take hx, hb⟩
theorem bytes_snoc {rs : List Rg} {k : Nat} (h : k < rs.length) (pre : List Int) : pre ++ ((rs.take (k + 1)).map rgK).map rgB = pre ++ ((rs.take k).map rgK).map rgB ++ [rgB (rgK rs[k])] := by
  rw [List.take_succ_eq_append_getElem h, List.map_append, List.map_append, List.append_assoc]; rfl
theorem bd_of_any {rs : List Rg} (h : anyBad (rs.map rgK) = false) {k : Nat} (hk : k < rs.length) : 0 ≤ (rs[k]).v ∧ (rs[k]).v ≤ 64 := by
  have := badK h (rgK rs[k]) (List.mem_map.2 ⟨_, List.getElem_mem hk, rfl⟩)
  unfold rgK at this
  simp only at this
  omega
def F1Rel (W : World) (rs : List Rg) (i : Value) (wr : World) : Prop := ∃ k : Nat, i = .int .i64 k ∧ k ≤ rs.length ∧ anyBad ((rs.take k).map rgK) = false ∧ wr = W
def F2Rel (W : World) (rs : List Rg) (pre : List Int) (b i _c : Value) (wr : World) : Prop :=
  ∃ k : Nat, i = .int .i64 k ∧ k ≤ rs.length ∧ rgP (rs.take k) = false ∧ OwnK wr W.heap.size 5 .u8 b (pre ++ ((rs.take k).map rgK).map rgB) ∧ Below W.heap.size W wr
set_option maxHeartbeats 1000000 in
theorem ref17Format_bad (op vs pts : Int) (A : Option Addr) (n c : Nat) (rs : List Rg) (er : Int) (bs : List Int) (w : World) (ha0 : RowR w (fun g => g < w.heap.size) 3 rgC A rs) (hn : n = rs.length) (hl : n ≤ 9223372036854775807) (ho : op < 1 ∨ 5 < op) (he : formErr ⟨op, vs, rs.map rgK, pts⟩ (rgP rs) = er) (hb : (if er = 0 then formB ⟨op, vs, rs.map rgK, pts⟩ else []) = bs) :
    Calls Tryd.prog 16 #[.agg #[.int .i64 op, .int .i64 vs, .slice A n c, .int .i64 pts]] w fun e w' => ∃ v, e = .returned (.tuple #[v, .int .i64 er]) ∧ OwnK w' w.heap.size 5 .u8 v bs ∧ Below w.heap.size w w' := by
  obtain ⟨W, hW⟩ : ∃ W, W = w.alloc (.cells #[.int .i64 op, .int .i64 vs, .slice A n c, .int .i64 pts] 25) := ⟨_, rfl⟩
  obtain ⟨h0, hsz, g0, g1, g2, g3⟩ := box4 hW
  obtain ⟨bg, hbg⟩ : ∃ b, b = w.heap.size := ⟨_, rfl⟩
  rw [← hbg] at g0 g1 g2 g3
  have HW := Lib.hid hW
  have Hbg := Lib.hid hbg
  have ha := (ha0.next h0).imp (T := fun g => g < W.heap.size) fun g hg => by omega
  have HKL := Lib.hid (show (rs.map rgK).length = n by rw [List.length_map, hn])
  have HN := Lib.hid hn
  have HE := Lib.hid he
  have HB := Lib.hid hb
  clear hW hbg hn he hb ha0
  have HX := Lib.hid (show er = 5 by rw [← HE.out]; exact fe_op ho)
  by_cases h1 : op < 1
  · clear ha ho
    go_enter Tryd.func16, Tryd.ntmps16
    go_upto_region 1 with (fail)
    rw [← HW.out, ← Hbg.out]
    go_wp2
    go_ret2
    exact ⟨_, by rw [HX.out]; rfl, by rw [← HB.out, HX.out]; exact OwnK.nil_ _ _ _ _, h0⟩
  · have h2 : 5 < op := by omega
    clear ha ho
    go_enter Tryd.func16, Tryd.ntmps16
    go_upto_region 1 with (fail)
    rw [← HW.out, ← Hbg.out]
    go_wp2
    go_ret2
    exact ⟨_, by rw [HX.out]; rfl, by rw [← HB.out, HX.out]; exact OwnK.nil_ _ _ _ _, h0⟩
set_option maxHeartbeats 1000000 in
theorem ref17Format_1 (vs pts : Int) (A : Option Addr) (n c : Nat) (rs : List Rg) (er : Int) (bs : List Int) (w : World) (ha0 : RowR w (fun g => g < w.heap.size) 3 rgC A rs) (hn : n = rs.length) (hl : n ≤ 9223372036854775807) (he : formErr ⟨1, vs, rs.map rgK, pts⟩ (rgP rs) = er) (hb : (if er = 0 then formB ⟨1, vs, rs.map rgK, pts⟩ else []) = bs) :
    Calls Tryd.prog 16 #[.agg #[.int .i64 1, .int .i64 vs, .slice A n c, .int .i64 pts]] w fun e w' => ∃ v, e = .returned (.tuple #[v, .int .i64 er]) ∧ OwnK w' w.heap.size 5 .u8 v bs ∧ Below w.heap.size w w' := by
  obtain ⟨W, hW⟩ : ∃ W, W = w.alloc (.cells #[.int .i64 1, .int .i64 vs, .slice A n c, .int .i64 pts] 25) := ⟨_, rfl⟩
  obtain ⟨h0, hsz, g0, g1, g2, g3⟩ := box4 hW
  obtain ⟨bg, hbg⟩ : ∃ b, b = w.heap.size := ⟨_, rfl⟩
  rw [← hbg] at g0 g1 g2 g3
  have HW := Lib.hid hW
  have Hbg := Lib.hid hbg
  have ha := (ha0.next h0).imp (T := fun g => g < W.heap.size) fun g hg => by omega
  have HKL := Lib.hid (show (rs.map rgK).length = n by rw [List.length_map, hn])
  have HN := Lib.hid hn
  have HE := Lib.hid he
  have HB := Lib.hid hb
  clear hW hbg hn he hb ha0
  by_cases hvs : vs ≠ 0
  · have d1 : (vs == 0) = false := by rw [beq_eq_false_iff_ne]; exact hvs
    have d2 : (vs != 0) = true := by rw [bne_iff_ne]; exact hvs
    have HX := Lib.hid (show er = 2 by rw [← HE.out, fe_12 (by simp only; omega)]; exact feU_2 (by simp only; rw [HKL.out]; omega))
    clear ha
    go_enter Tryd.func16, Tryd.ntmps16
    go_upto_region 1 with (fail)
    rw [← HW.out, ← Hbg.out]
    go_wp2
    go_ret2
    exact ⟨_, by rw [HX.out]; rfl, by rw [← HB.out, HX.out]; exact OwnK.nil_ _ _ _ _, h0⟩
  obtain rfl : vs = 0 := by omega
  by_cases hnn : n ≠ 0
  · have hn1 : 1 ≤ n := by omega
    have HKL0 := hn1
    have HX := Lib.hid (show er = 2 by rw [← HE.out, fe_12 (by simp only; omega)]; exact feU_2 (by simp only; rw [HKL.out]; omega))
    clear ha
    go_enter Tryd.func16, Tryd.ntmps16
    go_upto_region 1 with (fail)
    rw [← HW.out, ← Hbg.out]
    go_wp2
    go_ret2
    exact ⟨_, by rw [HX.out]; rfl, by rw [← HB.out, HX.out]; exact OwnK.nil_ _ _ _ _, h0⟩
  obtain rfl : n = 0 := by omega
  by_cases hpts : pts ≠ 0
  · have d1 : (pts == 0) = false := by rw [beq_eq_false_iff_ne]; exact hpts
    have d2 : (pts != 0) = true := by rw [bne_iff_ne]; exact hpts
    have HX := Lib.hid (show er = 2 by rw [← HE.out, fe_12 (by simp only; omega)]; exact feU_2 (by simp only; rw [HKL.out]; omega))
    clear ha
    go_enter Tryd.func16, Tryd.ntmps16
    go_upto_region 1 with (fail)
    rw [← HW.out, ← Hbg.out]
    go_wp2
    go_ret2
    exact ⟨_, by rw [HX.out]; rfl, by rw [← HB.out, HX.out]; exact OwnK.nil_ _ _ _ _, h0⟩
  obtain rfl : pts = 0 := by omega
  have HRS := Lib.hid (show rs = [] from List.length_eq_zero_iff.1 HN.out.symm)
  have HX := Lib.hid (show er = 0 by rw [← HE.out, fe_12 (by simp only; omega), feU_p ⟨fun _ => rfl, fun _ => HKL.out, fun _ => rfl⟩, HRS.out]; rfl)
  have HBS := Lib.hid (show [1] = bs by rw [← HB.out, if_pos HX.out, HRS.out]; rfl)
  clear ha
  go_enter Tryd.func16, Tryd.ntmps16
  go_upto_region 1 with (fail)
  rw [← HW.out, ← Hbg.out]
  go_upto_region 18 with (fail)
  obtain ⟨W1, hW1⟩ : ∃ W1, W1 = W.alloc (.cells #[.int .u8 1] 5) := ⟨_, rfl⟩
  have q1 : Below W.heap.size W W1 := by rw [hW1]; exact (Below.refl _ _).alloc (Nat.le_refl _) _
  obtain ⟨v1, hv1⟩ : ∃ v, v = Value.slice (some ⟨w.heap.size + 1, 0, none⟩) 1 1 := ⟨_, rfl⟩
  have own1 : OwnK W1 W.heap.size 5 .u8 v1 [1] := by rw [hW1, hv1, ← hsz]; exact own_lit _ (by decide) _ (Nat.le_refl _)
  rw [← hW1, ← hv1]
  clear hW1 hv1
  have j0 := (q1.cell (p := ⟨bg, 0, none⟩) (lt_of_cell g0)).trans g0
  have j1 := (q1.cell (p := ⟨bg, 1, none⟩) (lt_of_cell g1)).trans g1
  have j2 := (q1.cell (p := ⟨bg, 2, none⟩) (lt_of_cell g2)).trans g2
  have j3 := (q1.cell (p := ⟨bg, 3, none⟩) (lt_of_cell g3)).trans g3
  go_wp2
  go_loopw [5, 6, 7] (fun b i c wr => i = .int .i64 0 ∧ b = v1 ∧ wr = W1) (fun _ _ _ _ => 0)
  case atStart => exact ⟨rfl, rfl, rfl⟩
  case round =>
    obtain ⟨rfl, rfl, rfl⟩ := hrel
    go_wp2
    go_ret2
    exact ⟨_, by rw [HX.out]; rfl, by rw [← HBS.out]; exact (own1).base h0.size, h0.trans (q1.mono h0.size)⟩
set_option maxHeartbeats 1000000 in
theorem ref17Format_2 (vs pts : Int) (A : Option Addr) (n c : Nat) (rs : List Rg) (er : Int) (bs : List Int) (w : World) (ha0 : RowR w (fun g => g < w.heap.size) 3 rgC A rs) (hn : n = rs.length) (hl : n ≤ 9223372036854775807) (he : formErr ⟨2, vs, rs.map rgK, pts⟩ (rgP rs) = er) (hb : (if er = 0 then formB ⟨2, vs, rs.map rgK, pts⟩ else []) = bs) :
    Calls Tryd.prog 16 #[.agg #[.int .i64 2, .int .i64 vs, .slice A n c, .int .i64 pts]] w fun e w' => ∃ v, e = .returned (.tuple #[v, .int .i64 er]) ∧ OwnK w' w.heap.size 5 .u8 v bs ∧ Below w.heap.size w w' := by
  obtain ⟨W, hW⟩ : ∃ W, W = w.alloc (.cells #[.int .i64 2, .int .i64 vs, .slice A n c, .int .i64 pts] 25) := ⟨_, rfl⟩
  obtain ⟨h0, hsz, g0, g1, g2, g3⟩ := box4 hW
  obtain ⟨bg, hbg⟩ : ∃ b, b = w.heap.size := ⟨_, rfl⟩
  rw [← hbg] at g0 g1 g2 g3
  have HW := Lib.hid hW
  have Hbg := Lib.hid hbg
  have ha := (ha0.next h0).imp (T := fun g => g < W.heap.size) fun g hg => by omega
  have HKL := Lib.hid (show (rs.map rgK).length = n by rw [List.length_map, hn])
  have HN := Lib.hid hn
  have HE := Lib.hid he
  have HB := Lib.hid hb
  clear hW hbg hn he hb ha0
  by_cases hvs : vs ≠ 0
  · have d1 : (vs == 0) = false := by rw [beq_eq_false_iff_ne]; exact hvs
    have d2 : (vs != 0) = true := by rw [bne_iff_ne]; exact hvs
    have HX := Lib.hid (show er = 2 by rw [← HE.out, fe_12 (by simp only; omega)]; exact feU_2 (by simp only; rw [HKL.out]; omega))
    clear ha
    go_enter Tryd.func16, Tryd.ntmps16
    go_upto_region 1 with (fail)
    rw [← HW.out, ← Hbg.out]
    go_wp2
    go_ret2
    exact ⟨_, by rw [HX.out]; rfl, by rw [← HB.out, HX.out]; exact OwnK.nil_ _ _ _ _, h0⟩
  obtain rfl : vs = 0 := by omega
  by_cases hnn : n ≠ 0
  · have hn1 : 1 ≤ n := by omega
    have HKL0 := hn1
    have HX := Lib.hid (show er = 2 by rw [← HE.out, fe_12 (by simp only; omega)]; exact feU_2 (by simp only; rw [HKL.out]; omega))
    clear ha
    go_enter Tryd.func16, Tryd.ntmps16
    go_upto_region 1 with (fail)
    rw [← HW.out, ← Hbg.out]
    go_wp2
    go_ret2
    exact ⟨_, by rw [HX.out]; rfl, by rw [← HB.out, HX.out]; exact OwnK.nil_ _ _ _ _, h0⟩
  obtain rfl : n = 0 := by omega
  by_cases hpts : pts ≠ 0
  · have d1 : (pts == 0) = false := by rw [beq_eq_false_iff_ne]; exact hpts
    have d2 : (pts != 0) = true := by rw [bne_iff_ne]; exact hpts
    have HX := Lib.hid (show er = 2 by rw [← HE.out, fe_12 (by simp only; omega)]; exact feU_2 (by simp only; rw [HKL.out]; omega))
    clear ha
    go_enter Tryd.func16, Tryd.ntmps16
    go_upto_region 1 with (fail)
    rw [← HW.out, ← Hbg.out]
    go_wp2
    go_ret2
    exact ⟨_, by rw [HX.out]; rfl, by rw [← HB.out, HX.out]; exact OwnK.nil_ _ _ _ _, h0⟩
  obtain rfl : pts = 0 := by omega
  have HRS := Lib.hid (show rs = [] from List.length_eq_zero_iff.1 HN.out.symm)
  have HX := Lib.hid (show er = 0 by rw [← HE.out, fe_12 (by simp only; omega), feU_p ⟨fun _ => rfl, fun _ => HKL.out, fun _ => rfl⟩, HRS.out]; rfl)
  have HBS := Lib.hid (show [2] = bs by rw [← HB.out, if_pos HX.out, HRS.out]; rfl)
  clear ha
  go_enter Tryd.func16, Tryd.ntmps16
  go_upto_region 1 with (fail)
  rw [← HW.out, ← Hbg.out]
  go_upto_region 18 with (fail)
  obtain ⟨W1, hW1⟩ : ∃ W1, W1 = W.alloc (.cells #[.int .u8 2] 5) := ⟨_, rfl⟩
  have q1 : Below W.heap.size W W1 := by rw [hW1]; exact (Below.refl _ _).alloc (Nat.le_refl _) _
  obtain ⟨v1, hv1⟩ : ∃ v, v = Value.slice (some ⟨w.heap.size + 1, 0, none⟩) 1 1 := ⟨_, rfl⟩
  have own1 : OwnK W1 W.heap.size 5 .u8 v1 [2] := by rw [hW1, hv1, ← hsz]; exact own_lit _ (by decide) _ (Nat.le_refl _)
  rw [← hW1, ← hv1]
  clear hW1 hv1
  have j0 := (q1.cell (p := ⟨bg, 0, none⟩) (lt_of_cell g0)).trans g0
  have j1 := (q1.cell (p := ⟨bg, 1, none⟩) (lt_of_cell g1)).trans g1
  have j2 := (q1.cell (p := ⟨bg, 2, none⟩) (lt_of_cell g2)).trans g2
  have j3 := (q1.cell (p := ⟨bg, 3, none⟩) (lt_of_cell g3)).trans g3
  go_wp2
  go_loopw [5, 6, 7] (fun b i c wr => i = .int .i64 0 ∧ b = v1 ∧ wr = W1) (fun _ _ _ _ => 0)
  case atStart => exact ⟨rfl, rfl, rfl⟩
  case round =>
    obtain ⟨rfl, rfl, rfl⟩ := hrel
    go_wp2
    go_ret2
    exact ⟨_, by rw [HX.out]; rfl, by rw [← HBS.out]; exact (own1).base h0.size, h0.trans (q1.mono h0.size)⟩
set_option maxHeartbeats 1000000 in
theorem ref17Format_3 (vs pts : Int) (A : Option Addr) (n c : Nat) (rs : List Rg) (er : Int) (bs : List Int) (w : World) (ha0 : RowR w (fun g => g < w.heap.size) 3 rgC A rs) (hn : n = rs.length) (hl : n ≤ 9223372036854775807) (he : formErr ⟨3, vs, rs.map rgK, pts⟩ (rgP rs) = er) (hb : (if er = 0 then formB ⟨3, vs, rs.map rgK, pts⟩ else []) = bs) :
    Calls Tryd.prog 16 #[.agg #[.int .i64 3, .int .i64 vs, .slice A n c, .int .i64 pts]] w fun e w' => ∃ v, e = .returned (.tuple #[v, .int .i64 er]) ∧ OwnK w' w.heap.size 5 .u8 v bs ∧ Below w.heap.size w w' := by
  obtain ⟨W, hW⟩ : ∃ W, W = w.alloc (.cells #[.int .i64 3, .int .i64 vs, .slice A n c, .int .i64 pts] 25) := ⟨_, rfl⟩
  obtain ⟨h0, hsz, g0, g1, g2, g3⟩ := box4 hW
  obtain ⟨bg, hbg⟩ : ∃ b, b = w.heap.size := ⟨_, rfl⟩
  rw [← hbg] at g0 g1 g2 g3
  have HW := Lib.hid hW
  have Hbg := Lib.hid hbg
  have ha := (ha0.next h0).imp (T := fun g => g < W.heap.size) fun g hg => by omega
  have HKL := Lib.hid (show (rs.map rgK).length = n by rw [List.length_map, hn])
  have HN := Lib.hid hn
  have HE := Lib.hid he
  have HB := Lib.hid hb
  clear hW hbg hn he hb ha0
  by_cases hv3 : vs < 3
  · have HX := Lib.hid (show er = 6 by rw [← HE.out]; exact fe_3 rfl (.inl hv3))
    clear ha
    go_enter Tryd.func16, Tryd.ntmps16
    go_upto_region 1 with (fail)
    rw [← HW.out, ← Hbg.out]
    go_wp2
    go_ret2
    exact ⟨_, by rw [HX.out]; rfl, by rw [← HB.out, HX.out]; exact OwnK.nil_ _ _ _ _, h0⟩
  by_cases hv4 : 64 < vs
  · have HX := Lib.hid (show er = 6 by rw [← HE.out]; exact fe_3 rfl (.inr hv4))
    clear ha
    go_enter Tryd.func16, Tryd.ntmps16
    go_upto_region 1 with (fail)
    rw [← HW.out, ← Hbg.out]
    go_wp2
    go_ret2
    exact ⟨_, by rw [HX.out]; rfl, by rw [← HB.out, HX.out]; exact OwnK.nil_ _ _ _ _, h0⟩
  by_cases hnn : n ≠ 0
  · have hn1 : 1 ≤ n := by omega
    have HKL0 := hn1
    have HX := Lib.hid (show er = 2 by rw [← HE.out, fe_3u rfl (by simp only; omega)]; exact feU_2 (by simp only; rw [HKL.out]; omega))
    clear ha
    go_enter Tryd.func16, Tryd.ntmps16
    go_upto_region 1 with (fail)
    rw [← HW.out, ← Hbg.out]
    go_wp2
    go_ret2
    exact ⟨_, by rw [HX.out]; rfl, by rw [← HB.out, HX.out]; exact OwnK.nil_ _ _ _ _, h0⟩
  obtain rfl : n = 0 := by omega
  by_cases hpts : pts ≠ 0
  · have d1 : (pts == 0) = false := by rw [beq_eq_false_iff_ne]; exact hpts
    have d2 : (pts != 0) = true := by rw [bne_iff_ne]; exact hpts
    have HX := Lib.hid (show er = 2 by rw [← HE.out, fe_3u rfl (by simp only; omega)]; exact feU_2 (by simp only; rw [HKL.out]; omega))
    clear ha
    go_enter Tryd.func16, Tryd.ntmps16
    go_upto_region 1 with (fail)
    rw [← HW.out, ← Hbg.out]
    go_wp2
    go_ret2
    exact ⟨_, by rw [HX.out]; rfl, by rw [← HB.out, HX.out]; exact OwnK.nil_ _ _ _ _, h0⟩
  obtain rfl : pts = 0 := by omega
  have HRS := Lib.hid (show rs = [] from List.length_eq_zero_iff.1 HN.out.symm)
  have HX := Lib.hid (show er = 0 by rw [← HE.out, fe_3u rfl (by simp only; omega), feU_p ⟨fun h => absurd rfl h, fun _ => HKL.out, fun _ => rfl⟩, HRS.out]; rfl)
  have HBS := Lib.hid (show [3, vs] = bs by rw [← HB.out, if_pos HX.out, HRS.out]; rfl)
  clear ha
  go_enter Tryd.func16, Tryd.ntmps16
  go_upto_region 1 with (fail)
  rw [← HW.out, ← Hbg.out]
  go_upto_region 18 with (fail)
  obtain ⟨W1, hW1⟩ : ∃ W1, W1 = W.alloc (.cells #[.int .u8 3] 5) := ⟨_, rfl⟩
  have q1 : Below W.heap.size W W1 := by rw [hW1]; exact (Below.refl _ _).alloc (Nat.le_refl _) _
  obtain ⟨v1, hv1⟩ : ∃ v, v = Value.slice (some ⟨w.heap.size + 1, 0, none⟩) 1 1 := ⟨_, rfl⟩
  have own1 : OwnK W1 W.heap.size 5 .u8 v1 [3] := by rw [hW1, hv1, ← hsz]; exact own_lit _ (by decide) _ (Nat.le_refl _)
  rw [← hW1, ← hv1]
  clear hW1 hv1
  have j0 := (q1.cell (p := ⟨bg, 0, none⟩) (lt_of_cell g0)).trans g0
  have j1 := (q1.cell (p := ⟨bg, 1, none⟩) (lt_of_cell g1)).trans g1
  have j2 := (q1.cell (p := ⟨bg, 2, none⟩) (lt_of_cell g2)).trans g2
  have j3 := (q1.cell (p := ⟨bg, 3, none⟩) (lt_of_cell g3)).trans g3
  go_wp2_with (first
      | (at_builtin; refine wp_app_lit rfl _ _ rfl W.heap.size _ [3] rfl own1 [vs] 1 1 rfl rfl (by simp) q1.size ?_
         intro v2 W2 own2 hb2
         have q2 := q1.trans hb2
         have k0 := (q2.cell (p := ⟨bg, 0, none⟩) (lt_of_cell g0)).trans g0
         have k1 := (q2.cell (p := ⟨bg, 1, none⟩) (lt_of_cell g1)).trans g1
         have k2 := (q2.cell (p := ⟨bg, 2, none⟩) (lt_of_cell g2)).trans g2
         clear j0 j1 j2))
  go_loopw [5, 6, 7] (fun b i c wr => i = .int .i64 0 ∧ b = v2 ∧ wr = W2) (fun _ _ _ _ => 0)
  case atStart => exact ⟨rfl, rfl, rfl⟩
  case round =>
    obtain ⟨rfl, rfl, rfl⟩ := hrel
    go_wp2
    go_ret2
    exact ⟨_, by rw [HX.out]; rfl, by rw [← HBS.out]; exact (own2).base h0.size, h0.trans ((q1.trans hb2).mono h0.size)⟩
set_option maxHeartbeats 1000000 in
theorem ref17Format_4 (vs pts : Int) (A : Option Addr) (n c : Nat) (rs : List Rg) (er : Int) (bs : List Int) (w : World) (ha0 : RowR w (fun g => g < w.heap.size) 3 rgC A rs) (hn : n = rs.length) (hl : n ≤ 9223372036854775807) (he : formErr ⟨4, vs, rs.map rgK, pts⟩ (rgP rs) = er) (hb : (if er = 0 then formB ⟨4, vs, rs.map rgK, pts⟩ else []) = bs) :
    Calls Tryd.prog 16 #[.agg #[.int .i64 4, .int .i64 vs, .slice A n c, .int .i64 pts]] w fun e w' => ∃ v, e = .returned (.tuple #[v, .int .i64 er]) ∧ OwnK w' w.heap.size 5 .u8 v bs ∧ Below w.heap.size w w' := by
  obtain ⟨W, hW⟩ : ∃ W, W = w.alloc (.cells #[.int .i64 4, .int .i64 vs, .slice A n c, .int .i64 pts] 25) := ⟨_, rfl⟩
  obtain ⟨h0, hsz, g0, g1, g2, g3⟩ := box4 hW
  obtain ⟨bg, hbg⟩ : ∃ b, b = w.heap.size := ⟨_, rfl⟩
  rw [← hbg] at g0 g1 g2 g3
  have HW := Lib.hid hW
  have Hbg := Lib.hid hbg
  have ha := (ha0.next h0).imp (T := fun g => g < W.heap.size) fun g hg => by omega
  have HKL := Lib.hid (show (rs.map rgK).length = n by rw [List.length_map, hn])
  have HN := Lib.hid hn
  have HE := Lib.hid he
  have HB := Lib.hid hb
  clear hW hbg hn he hb ha0
  by_cases hn1 : n < 1
  · have HX := Lib.hid (show er = 6 by rw [← HE.out]; exact fe_len (by simp only; omega) (.inl (by rw [HKL.out]; exact hn1)))
    clear ha
    go_enter Tryd.func16, Tryd.ntmps16
    go_upto_region 1 with (fail)
    rw [← HW.out, ← Hbg.out]
    go_wp2
    go_ret2
    exact ⟨_, by rw [HX.out]; rfl, by rw [← HB.out, HX.out]; exact OwnK.nil_ _ _ _ _, h0⟩
  by_cases hn64 : 64 < n
  · have HX := Lib.hid (show er = 6 by rw [← HE.out]; exact fe_len (by simp only; omega) (.inr (by rw [HKL.out]; exact hn64)))
    clear ha
    go_enter Tryd.func16, Tryd.ntmps16
    go_upto_region 1 with (fail)
    rw [← HW.out, ← Hbg.out]
    go_wp2
    go_ret2
    exact ⟨_, by rw [HX.out]; rfl, by rw [← HB.out, HX.out]; exact OwnK.nil_ _ _ _ _, h0⟩
  have HLN := Lib.hid (show 1 ≤ (rs.map rgK).length ∧ (rs.map rgK).length ≤ 64 by rw [HKL.out]; omega)
  go_enter Tryd.func16, Tryd.ntmps16
  go_upto_region 1 with (fail)
  rw [← HW.out, ← Hbg.out]
  go_wp2
  go_loopw [4] (fun i wr => F1Rel W rs i wr) (fun i _ => n - (intOf i).toNat)
  case atStart => exact ⟨0, rfl, Nat.zero_le _, rfl, rfl⟩
  case round =>
    obtain ⟨k, rfl, hk, hck, hwr⟩ := hrel
    obtain rfl := hwr.symm
    clear hwr
    rw [← HN.out] at hk
    have HK := Lib.hid hck
    clear hck
    by_cases hgo : k < n
    · have hgo2 : k < rs.length := by rw [← HN.out]; exact hgo
      have HS1 := Lib.hid (any_snoc hgo2)
      obtain ⟨b, o, rfl, _, d, v, A2, m2, c2, hd, hv, hm, k0, k1, k2⟩ := rgs_at ha hgo2
      rw [hv, HK.out, Bool.false_or] at HS1
      obtain ⟨s, hs⟩ : ∃ s, sizeF v = s := ⟨_, rfl⟩
      rw [hs] at HS1
      have HS := Lib.hid hs
      clear hs hd hv hm ha
      go_wp2_with (fail)
      refine (ref16Size_any v s _ HS.out).mono ?_
      rintro e w2 ⟨rfl, hw2⟩
      obtain rfl := hw2.symm
      by_cases e1 : s = 0
      · have HX := Lib.hid (show er = 7 by rw [← HE.out]; exact fe_bad (by simp only; omega) HLN.out (any_of_take (k := k + 1) (by rw [HS1.out, e1]; rfl)))
        subst e1
        go_wp2
        go_ret2
        exact ⟨_, by rw [HX.out]; rfl, by rw [← HB.out, HX.out]; exact OwnK.nil_ _ _ _ _, h0⟩
      · have d1 : (s == 0) = false := by rw [beq_eq_false_iff_ne]; exact e1
        have HS2 := Lib.hid (show anyBad ((rs.take (k + 1)).map rgK) = false by rw [HS1.out]; exact decide_eq_false e1)
        clear e1
        go_wp2
        go_roundw
        case rel => exact ⟨k + 1, by go_num, by rw [← HN.out]; omega, HS2.out, rfl⟩
        case measure => simp [intOf]; omega
    · have HA := Lib.hid (show anyBad (rs.map rgK) = false by rw [← HK.out, List.take_of_length_le (by rw [← HN.out]; omega)])
      by_cases hvs : vs ≠ 0
      · have d1 : (vs == 0) = false := by rw [beq_eq_false_iff_ne]; exact hvs
        have d2 : (vs != 0) = true := by rw [bne_iff_ne]; exact hvs
        have HX := Lib.hid (show er = 2 by rw [← HE.out, fe_4u rfl HLN.out HA.out]; exact feU_2 (by simp only; omega))
        clear ha
        go_wp2
        go_ret2
        exact ⟨_, by rw [HX.out]; rfl, by rw [← HB.out, HX.out]; exact OwnK.nil_ _ _ _ _, h0⟩
      obtain rfl : vs = 0 := by omega
      by_cases hpts : pts ≠ 0
      · have d1 : (pts == 0) = false := by rw [beq_eq_false_iff_ne]; exact hpts
        have d2 : (pts != 0) = true := by rw [bne_iff_ne]; exact hpts
        have HX := Lib.hid (show er = 2 by rw [← HE.out, fe_4u rfl HLN.out HA.out]; exact feU_2 (by simp only; omega))
        clear ha
        go_wp2
        go_ret2
        exact ⟨_, by rw [HX.out]; rfl, by rw [← HB.out, HX.out]; exact OwnK.nil_ _ _ _ _, h0⟩
      obtain rfl : pts = 0 := by omega
      have HU := Lib.hid (show er = if rgP rs = true then 2 else 0 by rw [← HE.out, fe_4u rfl HLN.out HA.out, feU_p ⟨fun _ => rfl, fun h => absurd h (by simp only; omega), fun _ => rfl⟩])
      have HBd := Lib.hid (fun (j : Nat) (hj : j < rs.length) => bd_of_any HA.out hj)
      go_upto_region 18 with (fail)
      obtain ⟨W1, hW1⟩ : ∃ W1, W1 = W.alloc (.cells #[.int .u8 4] 5) := ⟨_, rfl⟩
      have q1 : Below W.heap.size W W1 := by rw [hW1]; exact (Below.refl _ _).alloc (Nat.le_refl _) _
      obtain ⟨v1, hv1⟩ : ∃ v, v = Value.slice (some ⟨w.heap.size + 1, 0, none⟩) 1 1 := ⟨_, rfl⟩
      have own1 : OwnK W1 W.heap.size 5 .u8 v1 [4] := by rw [hW1, hv1, ← hsz]; exact own_lit _ (by decide) _ (Nat.le_refl _)
      rw [← hW1, ← hv1]
      clear hW1 hv1
      have j0 := (q1.cell (p := ⟨bg, 0, none⟩) (lt_of_cell g0)).trans g0
      have j1 := (q1.cell (p := ⟨bg, 1, none⟩) (lt_of_cell g1)).trans g1
      have j2 := (q1.cell (p := ⟨bg, 2, none⟩) (lt_of_cell g2)).trans g2
      have j3 := (q1.cell (p := ⟨bg, 3, none⟩) (lt_of_cell g3)).trans g3
      go_wp2_with (first
        | (at_builtin; refine wp_app_lit rfl _ _ rfl W.heap.size _ [4] rfl own1 [(n : Int)] 1 1 rfl rfl (by simp) q1.size ?_
           intro v2 W2 own2 hb2
           have q2 := q1.trans hb2
           have k0 := (q2.cell (p := ⟨bg, 0, none⟩) (lt_of_cell g0)).trans g0
           have k1 := (q2.cell (p := ⟨bg, 1, none⟩) (lt_of_cell g1)).trans g1
           have k2 := (q2.cell (p := ⟨bg, 2, none⟩) (lt_of_cell g2)).trans g2
           clear j0 j1 j2 j3))
      go_loopw [5, 6, 7] (fun b i c wr => F2Rel W rs [4, (n : Int)] b i c wr) (fun _ i _ _ => n - (intOf i).toNat)
      case atStart => exact ⟨0, rfl, Nat.zero_le _, rfl, own2, q2⟩
      case round =>
        clear k0 k1 k2 q2 own2 own1 q1 hb2
        obtain ⟨j, rfl, hj, hp, hown, hbr⟩ := hrel
        rw [← HN.out] at hj
        have HP := Lib.hid hp
        have HO := Lib.hid hown
        clear hp hown
        have k0 := (hbr.cell (p := ⟨bg, 0, none⟩) (lt_of_cell g0)).trans g0
        have k2 := (hbr.cell (p := ⟨bg, 2, none⟩) (lt_of_cell g2)).trans g2
        have k3 := (hbr.cell (p := ⟨bg, 3, none⟩) (lt_of_cell g3)).trans g3
        clear g0 g1 g2 g3
        by_cases hgj : j < n
        · have hgj2 : j < rs.length := by rw [← HN.out]; exact hgj
          have HP1 := Lib.hid (rgP_snoc hgj2)
          have HB1 := Lib.hid (bytes_snoc hgj2 [4, (n : Int)])
          have hvb := HBd.out j hgj2
          obtain ⟨b, o, rfl, _, d, v, A2, m2, c2, hd, hv, hm, i0, i1, i2⟩ := rgs_at (ha.next hbr) hgj2
          rw [hm, HP.out, Bool.false_or] at HP1
          rw [show rgK rs[j] = (d, v) from Prod.ext hd hv] at HB1
          rw [hv] at hvb
          clear hd hv hm ha
          by_cases hm0 : m2 = 0
          · subst hm0
            have HP2 := Lib.hid (show rgP (rs.take (j + 1)) = false by rw [HP1.out]; rfl)
            cases d
            · go_wp2_with (first
                | (at_builtin; refine wp_app_lit rfl _ _ rfl W.heap.size _ _ rfl HO.out [v] 1 1 rfl rfl (by simp; omega) hbr.size ?_
                   intro v3 W3 own3 hb3))
              go_roundw
              case rel => exact ⟨j + 1, by go_num, by rw [← HN.out]; omega, HP2.out, by rw [HB1.out]; exact own3, hbr.trans hb3⟩
              case measure => simp [intOf]; omega
            · go_wp2_with (first
                | (at_builtin; refine wp_app_lit rfl _ _ rfl W.heap.size _ _ rfl HO.out [v + 128] 1 1 rfl rfl (by simp; omega) hbr.size ?_
                   intro v3 W3 own3 hb3))
              go_roundw
              case rel => exact ⟨j + 1, by go_num, by rw [← HN.out]; omega, HP2.out, by rw [HB1.out]; exact own3, hbr.trans hb3⟩
              case measure => simp [intOf]; omega
          · have HX := Lib.hid (show er = 2 by rw [HU.out, if_pos (rgP_of_take (k := j + 1) (by rw [HP1.out]; simp; omega))])
            have hm1 : 1 ≤ m2 := by omega
            have h1 := h0.trans (hbr.mono h0.size)
            go_wp2
            go_ret2
            exact ⟨_, by rw [HX.out]; rfl, by rw [← HB.out, HX.out]; exact OwnK.nil_ _ _ _ _, h1⟩
        · have HT := Lib.hid (show rs.take j = rs from List.take_of_length_le (by rw [← HN.out]; omega))
          rw [HT.out] at HP HO
          have HX := Lib.hid (show er = 0 by rw [HU.out, HP.out]; rfl)
          have HBS := Lib.hid (show [4, (n : Int)] ++ (rs.map rgK).map rgB = bs by rw [← HB.out, if_pos HX.out]; unfold formB; rw [HKL.out]; simp)
          have hjn : j ≤ 64 := by omega
          have h1 := h0.trans (hbr.mono h0.size)
          clear ha
          go_wp2
          go_ret2
          exact ⟨_, by rw [HX.out]; rfl, by rw [← HBS.out]; exact HO.out.base h0.size, h1⟩
set_option maxHeartbeats 1000000 in
theorem ref17Format_5 (vs pts : Int) (A : Option Addr) (n c : Nat) (rs : List Rg) (er : Int) (bs : List Int) (w : World) (ha0 : RowR w (fun g => g < w.heap.size) 3 rgC A rs) (hn : n = rs.length) (hl : n ≤ 9223372036854775807) (he : formErr ⟨5, vs, rs.map rgK, pts⟩ (rgP rs) = er) (hb : (if er = 0 then formB ⟨5, vs, rs.map rgK, pts⟩ else []) = bs) :
    Calls Tryd.prog 16 #[.agg #[.int .i64 5, .int .i64 vs, .slice A n c, .int .i64 pts]] w fun e w' => ∃ v, e = .returned (.tuple #[v, .int .i64 er]) ∧ OwnK w' w.heap.size 5 .u8 v bs ∧ Below w.heap.size w w' := by
  obtain ⟨W, hW⟩ : ∃ W, W = w.alloc (.cells #[.int .i64 5, .int .i64 vs, .slice A n c, .int .i64 pts] 25) := ⟨_, rfl⟩
  obtain ⟨h0, hsz, g0, g1, g2, g3⟩ := box4 hW
  obtain ⟨bg, hbg⟩ : ∃ b, b = w.heap.size := ⟨_, rfl⟩
  rw [← hbg] at g0 g1 g2 g3
  have HW := Lib.hid hW
  have Hbg := Lib.hid hbg
  have ha := (ha0.next h0).imp (T := fun g => g < W.heap.size) fun g hg => by omega
  have HKL := Lib.hid (show (rs.map rgK).length = n by rw [List.length_map, hn])
  have HN := Lib.hid hn
  have HE := Lib.hid he
  have HB := Lib.hid hb
  clear hW hbg hn he hb ha0
  by_cases hn1 : n < 1
  · have HX := Lib.hid (show er = 6 by rw [← HE.out]; exact fe_len (by simp only; omega) (.inl (by rw [HKL.out]; exact hn1)))
    clear ha
    go_enter Tryd.func16, Tryd.ntmps16
    go_upto_region 1 with (fail)
    rw [← HW.out, ← Hbg.out]
    go_wp2
    go_ret2
    exact ⟨_, by rw [HX.out]; rfl, by rw [← HB.out, HX.out]; exact OwnK.nil_ _ _ _ _, h0⟩
  by_cases hn64 : 64 < n
  · have HX := Lib.hid (show er = 6 by rw [← HE.out]; exact fe_len (by simp only; omega) (.inr (by rw [HKL.out]; exact hn64)))
    clear ha
    go_enter Tryd.func16, Tryd.ntmps16
    go_upto_region 1 with (fail)
    rw [← HW.out, ← Hbg.out]
    go_wp2
    go_ret2
    exact ⟨_, by rw [HX.out]; rfl, by rw [← HB.out, HX.out]; exact OwnK.nil_ _ _ _ _, h0⟩
  have HLN := Lib.hid (show 1 ≤ (rs.map rgK).length ∧ (rs.map rgK).length ≤ 64 by rw [HKL.out]; omega)
  go_enter Tryd.func16, Tryd.ntmps16
  go_upto_region 1 with (fail)
  rw [← HW.out, ← Hbg.out]
  go_wp2
  go_loopw [4] (fun i wr => F1Rel W rs i wr) (fun i _ => n - (intOf i).toNat)
  case atStart => exact ⟨0, rfl, Nat.zero_le _, rfl, rfl⟩
  case round =>
    obtain ⟨k, rfl, hk, hck, hwr⟩ := hrel
    obtain rfl := hwr.symm
    clear hwr
    rw [← HN.out] at hk
    have HK := Lib.hid hck
    clear hck
    by_cases hgo : k < n
    · have hgo2 : k < rs.length := by rw [← HN.out]; exact hgo
      have HS1 := Lib.hid (any_snoc hgo2)
      obtain ⟨b, o, rfl, _, d, v, A2, m2, c2, hd, hv, hm, k0, k1, k2⟩ := rgs_at ha hgo2
      rw [hv, HK.out, Bool.false_or] at HS1
      obtain ⟨s, hs⟩ : ∃ s, sizeF v = s := ⟨_, rfl⟩
      rw [hs] at HS1
      have HS := Lib.hid hs
      clear hs hd hv hm ha
      go_wp2_with (fail)
      refine (ref16Size_any v s _ HS.out).mono ?_
      rintro e w2 ⟨rfl, hw2⟩
      obtain rfl := hw2.symm
      by_cases e1 : s = 0
      · have HX := Lib.hid (show er = 7 by rw [← HE.out]; exact fe_bad (by simp only; omega) HLN.out (any_of_take (k := k + 1) (by rw [HS1.out, e1]; rfl)))
        subst e1
        go_wp2
        go_ret2
        exact ⟨_, by rw [HX.out]; rfl, by rw [← HB.out, HX.out]; exact OwnK.nil_ _ _ _ _, h0⟩
      · have d1 : (s == 0) = false := by rw [beq_eq_false_iff_ne]; exact e1
        have HS2 := Lib.hid (show anyBad ((rs.take (k + 1)).map rgK) = false by rw [HS1.out]; exact decide_eq_false e1)
        clear e1
        go_wp2
        go_roundw
        case rel => exact ⟨k + 1, by go_num, by rw [← HN.out]; omega, HS2.out, rfl⟩
        case measure => simp [intOf]; omega
    · have HA := Lib.hid (show anyBad (rs.map rgK) = false by rw [← HK.out, List.take_of_length_le (by rw [← HN.out]; omega)])
      by_cases hp1 : pts < 1
      · have HX := Lib.hid (show er = 6 by rw [← HE.out]; exact fe_5p rfl HLN.out HA.out (.inl hp1))
        clear ha
        go_wp2
        go_ret2
        exact ⟨_, by rw [HX.out]; rfl, by rw [← HB.out, HX.out]; exact OwnK.nil_ _ _ _ _, h0⟩
      by_cases hp4 : 4096 < pts
      · have HX := Lib.hid (show er = 6 by rw [← HE.out]; exact fe_5p rfl HLN.out HA.out (.inr hp4))
        clear ha
        go_wp2
        go_ret2
        exact ⟨_, by rw [HX.out]; rfl, by rw [← HB.out, HX.out]; exact OwnK.nil_ _ _ _ _, h0⟩
      by_cases hvs : vs ≠ 0
      · have d1 : (vs == 0) = false := by rw [beq_eq_false_iff_ne]; exact hvs
        have d2 : (vs != 0) = true := by rw [bne_iff_ne]; exact hvs
        have HX := Lib.hid (show er = 2 by rw [← HE.out, fe_5u rfl HLN.out HA.out ⟨by simp only; omega, by simp only; omega⟩]; exact feU_2 (by simp only; omega))
        clear ha
        go_wp2
        go_ret2
        exact ⟨_, by rw [HX.out]; rfl, by rw [← HB.out, HX.out]; exact OwnK.nil_ _ _ _ _, h0⟩
      obtain rfl : vs = 0 := by omega
      have HU := Lib.hid (show er = if rgP rs = true then 2 else 0 by rw [← HE.out, fe_5u rfl HLN.out HA.out ⟨by simp only; omega, by simp only; omega⟩, feU_p ⟨fun _ => rfl, fun h => absurd h (by simp only; omega), fun h => absurd rfl h⟩])
      have HBd := Lib.hid (fun (j : Nat) (hj : j < rs.length) => bd_of_any HA.out hj)
      go_upto_region 18 with (fail)
      obtain ⟨W1, hW1⟩ : ∃ W1, W1 = W.alloc (.cells #[.int .u8 5] 5) := ⟨_, rfl⟩
      have q1 : Below W.heap.size W W1 := by rw [hW1]; exact (Below.refl _ _).alloc (Nat.le_refl _) _
      obtain ⟨v1, hv1⟩ : ∃ v, v = Value.slice (some ⟨w.heap.size + 1, 0, none⟩) 1 1 := ⟨_, rfl⟩
      have own1 : OwnK W1 W.heap.size 5 .u8 v1 [5] := by rw [hW1, hv1, ← hsz]; exact own_lit _ (by decide) _ (Nat.le_refl _)
      rw [← hW1, ← hv1]
      clear hW1 hv1
      have j0 := (q1.cell (p := ⟨bg, 0, none⟩) (lt_of_cell g0)).trans g0
      have j1 := (q1.cell (p := ⟨bg, 1, none⟩) (lt_of_cell g1)).trans g1
      have j2 := (q1.cell (p := ⟨bg, 2, none⟩) (lt_of_cell g2)).trans g2
      have j3 := (q1.cell (p := ⟨bg, 3, none⟩) (lt_of_cell g3)).trans g3
      go_wp2_with (first
        | (at_builtin; refine wp_app_lit rfl _ _ rfl W.heap.size _ [5] rfl own1 [(n : Int)] 1 1 rfl rfl (by simp) q1.size ?_
           intro v2 W2 own2 hb2
           have q2 := q1.trans hb2
           have k0 := (q2.cell (p := ⟨bg, 0, none⟩) (lt_of_cell g0)).trans g0
           have k1 := (q2.cell (p := ⟨bg, 1, none⟩) (lt_of_cell g1)).trans g1
           have k2 := (q2.cell (p := ⟨bg, 2, none⟩) (lt_of_cell g2)).trans g2
           clear j0 j1 j2 j3))
      go_loopw [5, 6, 7] (fun b i c wr => F2Rel W rs [5, (n : Int)] b i c wr) (fun _ i _ _ => n - (intOf i).toNat)
      case atStart => exact ⟨0, rfl, Nat.zero_le _, rfl, own2, q2⟩
      case round =>
        clear k0 k1 k2 q2 own2 own1 q1 hb2
        obtain ⟨j, rfl, hj, hp, hown, hbr⟩ := hrel
        rw [← HN.out] at hj
        have HP := Lib.hid hp
        have HO := Lib.hid hown
        clear hp hown
        have k0 := (hbr.cell (p := ⟨bg, 0, none⟩) (lt_of_cell g0)).trans g0
        have k2 := (hbr.cell (p := ⟨bg, 2, none⟩) (lt_of_cell g2)).trans g2
        have k3 := (hbr.cell (p := ⟨bg, 3, none⟩) (lt_of_cell g3)).trans g3
        clear g0 g1 g2 g3
        by_cases hgj : j < n
        · have hgj2 : j < rs.length := by rw [← HN.out]; exact hgj
          have HP1 := Lib.hid (rgP_snoc hgj2)
          have HB1 := Lib.hid (bytes_snoc hgj2 [5, (n : Int)])
          have hvb := HBd.out j hgj2
          obtain ⟨b, o, rfl, _, d, v, A2, m2, c2, hd, hv, hm, i0, i1, i2⟩ := rgs_at (ha.next hbr) hgj2
          rw [hm, HP.out, Bool.false_or] at HP1
          rw [show rgK rs[j] = (d, v) from Prod.ext hd hv] at HB1
          rw [hv] at hvb
          clear hd hv hm ha
          by_cases hm0 : m2 = 0
          · subst hm0
            have HP2 := Lib.hid (show rgP (rs.take (j + 1)) = false by rw [HP1.out]; rfl)
            cases d
            · go_wp2_with (first
                | (at_builtin; refine wp_app_lit rfl _ _ rfl W.heap.size _ _ rfl HO.out [v] 1 1 rfl rfl (by simp; omega) hbr.size ?_
                   intro v3 W3 own3 hb3))
              go_roundw
              case rel => exact ⟨j + 1, by go_num, by rw [← HN.out]; omega, HP2.out, by rw [HB1.out]; exact own3, hbr.trans hb3⟩
              case measure => simp [intOf]; omega
            · go_wp2_with (first
                | (at_builtin; refine wp_app_lit rfl _ _ rfl W.heap.size _ _ rfl HO.out [v + 128] 1 1 rfl rfl (by simp; omega) hbr.size ?_
                   intro v3 W3 own3 hb3))
              go_roundw
              case rel => exact ⟨j + 1, by go_num, by rw [← HN.out]; omega, HP2.out, by rw [HB1.out]; exact own3, hbr.trans hb3⟩
              case measure => simp [intOf]; omega
          · have HX := Lib.hid (show er = 2 by rw [HU.out, if_pos (rgP_of_take (k := j + 1) (by rw [HP1.out]; simp; omega))])
            have hm1 : 1 ≤ m2 := by omega
            have h1 := h0.trans (hbr.mono h0.size)
            go_wp2
            go_ret2
            exact ⟨_, by rw [HX.out]; rfl, by rw [← HB.out, HX.out]; exact OwnK.nil_ _ _ _ _, h1⟩
        · have HT := Lib.hid (show rs.take j = rs from List.take_of_length_le (by rw [← HN.out]; omega))
          rw [HT.out] at HP HO
          have HX := Lib.hid (show er = 0 by rw [HU.out, HP.out]; rfl)
          have HBS := Lib.hid (show [5, (n : Int)] ++ (rs.map rgK).map rgB ++ [pts % 256, pts / 256] = bs by rw [← HB.out, if_pos HX.out]; unfold formB; rw [HKL.out]; simp)
          have hjn : j ≤ 64 := by omega
          have h1 := h0.trans (hbr.mono h0.size)
          clear ha
          have hrl : rs.length ≤ 64 := by rw [← HN.out]; omega
          go_wp2_with (first
            | (at_builtin; refine wp_app_lit rfl _ _ rfl W.heap.size _ _ rfl HO.out [pts % 256, pts / 256] 2 2 rfl rfl (by simp; omega) hbr.size ?_
               intro v3 W3 own3 hb3))
          go_ret2
          exact ⟨_, by rw [HX.out]; rfl, by rw [← HBS.out]; exact own3.base h0.size, h0.trans ((hbr.trans hb3).mono h0.size)⟩
end Go.Proofs.YtokabljeekokmaaDoor
