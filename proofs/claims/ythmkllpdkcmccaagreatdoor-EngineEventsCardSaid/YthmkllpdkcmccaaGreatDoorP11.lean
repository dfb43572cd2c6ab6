/-
  Packed texts: Ref17f, Ref17p, Ref17c, CodE, CodA.
-/
import Derived.WalkSpells
import Derived.Test.YthmkllpdkcmccaaGreatDoorP10
namespace Go.Proofs.YthmkllpdkcmccaaGreatDoor
open Go.RowKit Go.Maps
set_option maxRecDepth 100000
set_option linter.unusedVariables false
set_option linter.unusedSimpArgs false

theorem fe_op {h : Hq} {p : Bool} (h1 : h.op < 1 ∨ 5 < h.op) : formErr h p = 5 := by unfold formErr; rw [if_pos h1]
theorem fe_3 {h : Hq} {p : Bool} (h1 : h.op = 3) (h2 : h.vs < 3 ∨ 64 < h.vs) : formErr h p = 6 := by unfold formErr; rw [if_neg (by omega), if_pos ⟨h1, h2⟩]
/-- Behind the checks of one's own. -/
def feU (h : Hq) (p : Bool) : Int := if unusedH h = true then 2 else if p = true then 2 else 0
theorem fe_12 {h : Hq} {p : Bool} (h1 : 1 ≤ h.op ∧ h.op < 3) : formErr h p = feU h p := by
  unfold formErr; rw [if_neg (by omega), if_neg (by omega), if_neg (by omega), if_neg (by omega), if_neg (by omega)]; rfl
theorem fe_3u {h : Hq} {p : Bool} (h1 : h.op = 3) (h2 : 3 ≤ h.vs ∧ h.vs ≤ 64) : formErr h p = feU h p := by
  unfold formErr; rw [if_neg (by omega), if_neg (by omega), if_neg (by omega), if_neg (by omega), if_neg (by omega)]; rfl
theorem fe_len {h : Hq} {p : Bool} (h1 : 4 ≤ h.op ∧ h.op ≤ 5) (h2 : h.ks.length < 1 ∨ 64 < h.ks.length) : formErr h p = 6 := by
  unfold formErr; rw [if_neg (by omega), if_neg (by omega), if_pos (by omega)]
theorem fe_bad {h : Hq} {p : Bool} (h1 : 4 ≤ h.op ∧ h.op ≤ 5) (h2 : 1 ≤ h.ks.length ∧ h.ks.length ≤ 64) (h3 : anyBad h.ks = true) : formErr h p = 7 := by
  unfold formErr; rw [if_neg (by omega), if_neg (by omega), if_neg (by omega), if_pos ⟨h1.1, h3⟩]
theorem fe_4u {h : Hq} {p : Bool} (h1 : h.op = 4) (h2 : 1 ≤ h.ks.length ∧ h.ks.length ≤ 64) (h3 : anyBad h.ks = false) : formErr h p = feU h p := by
  unfold formErr; rw [if_neg (by omega), if_neg (by omega), if_neg (by omega), if_neg (by rw [h3]; simp), if_neg (by omega)]; rfl
theorem fe_5p {h : Hq} {p : Bool} (h1 : h.op = 5) (h2 : 1 ≤ h.ks.length ∧ h.ks.length ≤ 64) (h3 : anyBad h.ks = false) (h4 : h.pts < 1 ∨ 4096 < h.pts) : formErr h p = 6 := by
  unfold formErr; rw [if_neg (by omega), if_neg (by omega), if_neg (by omega), if_neg (by rw [h3]; simp), if_pos ⟨h1, h4⟩]
theorem fe_5u {h : Hq} {p : Bool} (h1 : h.op = 5) (h2 : 1 ≤ h.ks.length ∧ h.ks.length ≤ 64) (h3 : anyBad h.ks = false) (h4 : 1 ≤ h.pts ∧ h.pts ≤ 4096) : formErr h p = feU h p := by
  unfold formErr; rw [if_neg (by omega), if_neg (by omega), if_neg (by omega), if_neg (by rw [h3]; simp), if_neg (by omega)]; rfl
theorem feU_2 {h : Hq} {p : Bool} (h1 : ¬ ((h.op ≠ 3 → h.vs = 0) ∧ (h.op < 4 → h.ks.length = 0) ∧ (h.op ≠ 5 → h.pts = 0))) : feU h p = 2 := by
  unfold feU
  have : unusedH h = true := by
    by_cases e : unusedH h = false
    · exact absurd ((unused_iff h).1 e) h1
    · simpa using e
  rw [if_pos this]
theorem feU_p {h : Hq} {p : Bool} (h1 : (h.op ≠ 3 → h.vs = 0) ∧ (h.op < 4 → h.ks.length = 0) ∧ (h.op ≠ 5 → h.pts = 0)) : feU h p = if p = true then 2 else 0 := by
  unfold feU
  rw [(unused_iff h).2 h1]; rfl
theorem any_snoc {rs : List Rg} {k : Nat} (h : k < rs.length) : anyBad ((rs.take (k + 1)).map rgK) = (anyBad ((rs.take k).map rgK) || decide (sizeF (rs[k]).v = 0)) := by
  unfold anyBad
  rw [List.take_succ_eq_append_getElem h, List.map_append, List.any_append]; simp [rgK]
theorem rgP_snoc {rs : List Rg} {k : Nat} (h : k < rs.length) : rgP (rs.take (k + 1)) = (rgP (rs.take k) || decide (0 < (rs[k]).l.length)) := by
  unfold rgP
  rw [List.take_succ_eq_append_getElem h, List.any_append]; simp
theorem any_of_take {rs : List Rg} {k : Nat} (h : anyBad ((rs.take k).map rgK) = true) : anyBad (rs.map rgK) = true := by
  unfold anyBad at h ⊢
  rw [List.any_eq_true] at h ⊢
  obtain ⟨x, hx, hb⟩ := h
  obtain ⟨r, hr, rfl⟩ := List.mem_map.1 hx
  exact ⟨_, List.mem_map.2 ⟨r, List.mem_of_mem_take hr, rfl⟩, hb⟩
theorem rgP_of_take {rs : List Rg} {k : Nat} (h : rgP (rs.take k) = true) : rgP rs = true := by
  unfold rgP at h ⊢
  rw [List.any_eq_true] at h ⊢
  obtain ⟨x, hx, hb⟩ := h
  exact ⟨x, List.mem_of_mem_take hx, hb⟩
theorem bytes_snoc {rs : List Rg} {k : Nat} (h : k < rs.length) (pre : List Int) : pre ++ ((rs.take (k + 1)).map rgK).map rgB = pre ++ ((rs.take k).map rgK).map rgB ++ [rgB (rgK rs[k])] := by
  rw [List.take_succ_eq_append_getElem h, List.map_append, List.map_append, List.append_assoc]; rfl
theorem bd_of_any {rs : List Rg} (h : anyBad (rs.map rgK) = false) {k : Nat} (hk : k < rs.length) : 0 ≤ (rs[k]).v ∧ (rs[k]).v ≤ 64 := by
  have := badK h (rgK rs[k]) (List.mem_map.2 ⟨_, List.getElem_mem hk, rfl⟩)
  unfold rgK at this
  simp only at this
  omega
def F1Rel (W : World) (rs : List Rg) (i : Value) (wr : World) : Prop := ∃ k : Nat, i = .int .i64 k ∧ k ≤ rs.length ∧ anyBad ((rs.take k).map rgK) = false ∧ wr = W
def F2Rel (W : World) (rs : List Rg) (pre : List Int) (b i _c : Value) (wr : World) : Prop :=
  ∃ k : Nat, i = .int .i64 k ∧ k ≤ rs.length ∧ rgP (rs.take k) = false ∧ OwnK wr W.heap.size 5 .u8 b (pre ++ ((rs.take k).map rgK).map rgB) ∧ Below W.heap.size W wr
set_option maxHeartbeats 1000000 in
theorem ref17Format_bad (op vs pts : Int) (A : Option Addr) (n c : Nat) (rs : List Rg) (er : Int) (bs : List Int) (w : World) (ha0 : RowR w (fun g => g < w.heap.size) 3 rgC A rs) (hn : n = rs.length) (hl : n ≤ 9223372036854775807) (ho : op < 1 ∨ 5 < op) (he : formErr ⟨op, vs, rs.map rgK, pts⟩ (rgP rs) = er) (hb : (if er = 0 then formB ⟨op, vs, rs.map rgK, pts⟩ else []) = bs) :
    Calls Tryz.prog 37 #[.agg #[.int .i64 op, .int .i64 vs, .slice A n c, .int .i64 pts]] w fun e w' => ∃ v, e = .returned (.tuple #[v, .int .i64 er]) ∧ OwnK w' w.heap.size 5 .u8 v bs ∧ Below w.heap.size w w' := by
  obtain ⟨W, hW⟩ : ∃ W, W = w.alloc (.cells #[.int .i64 op, .int .i64 vs, .slice A n c, .int .i64 pts] 37) := ⟨_, rfl⟩
  obtain ⟨h0, hsz, g0, g1, g2, g3⟩ := box4 hW
  obtain ⟨bg, hbg⟩ : ∃ b, b = w.heap.size := ⟨_, rfl⟩
  rw [← hbg] at g0 g1 g2 g3
  have HW := Lib.hid hW
  have Hbg := Lib.hid hbg
  have ha := (ha0.next h0).imp (T := fun g => g < W.heap.size) fun g hg => by omega
  have HKL := Lib.hid (show (rs.map rgK).length = n by rw [List.length_map, hn])
  have HN := Lib.hid hn
  have HE := Lib.hid he
  have HB := Lib.hid hb
  clear hW hbg hn he hb ha0
  have HX := Lib.hid (show er = 5 by rw [← HE.out]; exact fe_op ho)
  by_cases h1 : op < 1
  · clear ha ho
    go_enter Tryz.func37, Tryz.ntmps37
    go_upto_region 1 with (fail)
    rw [← HW.out, ← Hbg.out]
    go_wp2
    go_ret2
    exact ⟨_, by rw [HX.out]; rfl, by rw [← HB.out, HX.out]; exact OwnK.nil_ _ _ _ _, h0⟩
  · have h2 : 5 < op := by omega
    clear ha ho
    go_enter Tryz.func37, Tryz.ntmps37
    go_upto_region 1 with (fail)
    rw [← HW.out, ← Hbg.out]
    go_wp2
    go_ret2
    exact ⟨_, by rw [HX.out]; rfl, by rw [← HB.out, HX.out]; exact OwnK.nil_ _ _ _ _, h0⟩
set_option maxHeartbeats 1000000 in
theorem ref17Format_1 (vs pts : Int) (A : Option Addr) (n c : Nat) (rs : List Rg) (er : Int) (bs : List Int) (w : World) (ha0 : RowR w (fun g => g < w.heap.size) 3 rgC A rs) (hn : n = rs.length) (hl : n ≤ 9223372036854775807) (he : formErr ⟨1, vs, rs.map rgK, pts⟩ (rgP rs) = er) (hb : (if er = 0 then formB ⟨1, vs, rs.map rgK, pts⟩ else []) = bs) :
    Calls Tryz.prog 37 #[.agg #[.int .i64 1, .int .i64 vs, .slice A n c, .int .i64 pts]] w fun e w' => ∃ v, e = .returned (.tuple #[v, .int .i64 er]) ∧ OwnK w' w.heap.size 5 .u8 v bs ∧ Below w.heap.size w w' := by
  obtain ⟨W, hW⟩ : ∃ W, W = w.alloc (.cells #[.int .i64 1, .int .i64 vs, .slice A n c, .int .i64 pts] 37) := ⟨_, rfl⟩
  obtain ⟨h0, hsz, g0, g1, g2, g3⟩ := box4 hW
  obtain ⟨bg, hbg⟩ : ∃ b, b = w.heap.size := ⟨_, rfl⟩
  rw [← hbg] at g0 g1 g2 g3
  have HW := Lib.hid hW
  have Hbg := Lib.hid hbg
  have ha := (ha0.next h0).imp (T := fun g => g < W.heap.size) fun g hg => by omega
  have HKL := Lib.hid (show (rs.map rgK).length = n by rw [List.length_map, hn])
  have HN := Lib.hid hn
  have HE := Lib.hid he
  have HB := Lib.hid hb
  clear hW hbg hn he hb ha0
  by_cases hvs : vs ≠ 0
  · have d1 : (vs == 0) = false := by rw [beq_eq_false_iff_ne]; exact hvs
    have d2 : (vs != 0) = true := by rw [bne_iff_ne]; exact hvs
    have HX := Lib.hid (show er = 2 by rw [← HE.out, fe_12 (by simp only; omega)]; exact feU_2 (by simp only; rw [HKL.out]; omega))
    clear ha
    go_enter Tryz.func37, Tryz.ntmps37
    go_upto_region 1 with (fail)
    rw [← HW.out, ← Hbg.out]
    go_wp2
    go_ret2
    exact ⟨_, by rw [HX.out]; rfl, by rw [← HB.out, HX.out]; exact OwnK.nil_ _ _ _ _, h0⟩
  obtain rfl : vs = 0 := by omega
  by_cases hnn : n ≠ 0
  · have hn1 : 1 ≤ n := by omega
    have HKL0 := hn1
    have HX := Lib.hid (show er = 2 by rw [← HE.out, fe_12 (by simp only; omega)]; exact feU_2 (by simp only; rw [HKL.out]; omega))
    clear ha
    go_enter Tryz.func37, Tryz.ntmps37
    go_upto_region 1 with (fail)
    rw [← HW.out, ← Hbg.out]
    go_wp2
    go_ret2
    exact ⟨_, by rw [HX.out]; rfl, by rw [← HB.out, HX.out]; exact OwnK.nil_ _ _ _ _, h0⟩
  obtain rfl : n = 0 := by omega
  by_cases hpts : pts ≠ 0
  · have d1 : (pts == 0) = false := by rw [beq_eq_false_iff_ne]; exact hpts
    have d2 : (pts != 0) = true := by rw [bne_iff_ne]; exact hpts
    have HX := Lib.hid (show er = 2 by rw [← HE.out, fe_12 (by simp only; omega)]; exact feU_2 (by simp only; rw [HKL.out]; omega))
    clear ha
    go_enter Tryz.func37, Tryz.ntmps37
    go_upto_region 1 with (fail)
    rw [← HW.out, ← Hbg.out]
    go_wp2
    go_ret2
    exact ⟨_, by rw [HX.out]; rfl, by rw [← HB.out, HX.out]; exact OwnK.nil_ _ _ _ _, h0⟩
  obtain rfl : pts = 0 := by omega
  have HRS := Lib.hid (show rs = [] from List.length_eq_zero_iff.1 HN.out.symm)
  have HX := Lib.hid (show er = 0 by rw [← HE.out, fe_12 (by simp only; omega), feU_p ⟨fun _ => rfl, fun _ => HKL.out, fun _ => rfl⟩, HRS.out]; rfl)
  have HBS := Lib.hid (show [1] = bs by rw [← HB.out, if_pos HX.out, HRS.out]; rfl)
  clear ha
  go_enter Tryz.func37, Tryz.ntmps37
  go_upto_region 1 with (fail)
  rw [← HW.out, ← Hbg.out]
  go_upto_region 18 with (fail)
  obtain ⟨W1, hW1⟩ : ∃ W1, W1 = W.alloc (.cells #[.int .u8 1] 5) := ⟨_, rfl⟩
  have q1 : Below W.heap.size W W1 := by rw [hW1]; exact (Below.refl _ _).alloc (Nat.le_refl _) _
  obtain ⟨v1, hv1⟩ : ∃ v, v = Value.slice (some ⟨w.heap.size + 1, 0, none⟩) 1 1 := ⟨_, rfl⟩
  have own1 : OwnK W1 W.heap.size 5 .u8 v1 [1] := by rw [hW1, hv1, ← hsz]; exact own_lit _ (by decide) _ (Nat.le_refl _)
  rw [← hW1, ← hv1]
  clear hW1 hv1
  have j0 := (q1.cell (p := ⟨bg, 0, none⟩) (lt_of_cell g0)).trans g0
  have j1 := (q1.cell (p := ⟨bg, 1, none⟩) (lt_of_cell g1)).trans g1
  have j2 := (q1.cell (p := ⟨bg, 2, none⟩) (lt_of_cell g2)).trans g2
  have j3 := (q1.cell (p := ⟨bg, 3, none⟩) (lt_of_cell g3)).trans g3
  go_wp2
  go_loopw [5, 6, 7] (fun b i c wr => i = .int .i64 0 ∧ b = v1 ∧ wr = W1) (fun _ _ _ _ => 0)
  case atStart => exact ⟨rfl, rfl, rfl⟩
  case round =>
    obtain ⟨rfl, rfl, rfl⟩ := hrel
    go_wp2
    go_ret2
    exact ⟨_, by rw [HX.out]; rfl, by rw [← HBS.out]; exact (own1).base h0.size, h0.trans (q1.mono h0.size)⟩
set_option maxHeartbeats 1000000 in
theorem ref17Format_2 (vs pts : Int) (A : Option Addr) (n c : Nat) (rs : List Rg) (er : Int) (bs : List Int) (w : World) (ha0 : RowR w (fun g => g < w.heap.size) 3 rgC A rs) (hn : n = rs.length) (hl : n ≤ 9223372036854775807) (he : formErr ⟨2, vs, rs.map rgK, pts⟩ (rgP rs) = er) (hb : (if er = 0 then formB ⟨2, vs, rs.map rgK, pts⟩ else []) = bs) :
    Calls Tryz.prog 37 #[.agg #[.int .i64 2, .int .i64 vs, .slice A n c, .int .i64 pts]] w fun e w' => ∃ v, e = .returned (.tuple #[v, .int .i64 er]) ∧ OwnK w' w.heap.size 5 .u8 v bs ∧ Below w.heap.size w w' := by
  obtain ⟨W, hW⟩ : ∃ W, W = w.alloc (.cells #[.int .i64 2, .int .i64 vs, .slice A n c, .int .i64 pts] 37) := ⟨_, rfl⟩
  obtain ⟨h0, hsz, g0, g1, g2, g3⟩ := box4 hW
  obtain ⟨bg, hbg⟩ : ∃ b, b = w.heap.size := ⟨_, rfl⟩
  rw [← hbg] at g0 g1 g2 g3
  have HW := Lib.hid hW
  have Hbg := Lib.hid hbg
  have ha := (ha0.next h0).imp (T := fun g => g < W.heap.size) fun g hg => by omega
  have HKL := Lib.hid (show (rs.map rgK).length = n by rw [List.length_map, hn])
  have HN := Lib.hid hn
  have HE := Lib.hid he
  have HB := Lib.hid hb
  clear hW hbg hn he hb ha0
  by_cases hvs : vs ≠ 0
  · have d1 : (vs == 0) = false := by rw [beq_eq_false_iff_ne]; exact hvs
    have d2 : (vs != 0) = true := by rw [bne_iff_ne]; exact hvs
    have HX := Lib.hid (show er = 2 by rw [← HE.out, fe_12 (by simp only; omega)]; exact feU_2 (by simp only; rw [HKL.out]; omega))
    clear ha
    go_enter Tryz.func37, Tryz.ntmps37
    go_upto_region 1 with (fail)
    rw [← HW.out, ← Hbg.out]
    go_wp2
    go_ret2
    exact ⟨_, by rw [HX.out]; rfl, by rw [← HB.out, HX.out]; exact OwnK.nil_ _ _ _ _, h0⟩
  obtain rfl : vs = 0 := by omega
  by_cases hnn : n ≠ 0
  · have hn1 : 1 ≤ n := by omega
    have HKL0 := hn1
    have HX := Lib.hid (show er = 2 by rw [← HE.out, fe_12 (by simp only; omega)]; exact feU_2 (by simp only; rw [HKL.out]; omega))
    clear ha
    go_enter Tryz.func37, Tryz.ntmps37
    go_upto_region 1 with (fail)
    rw [← HW.out, ← Hbg.out]
    go_wp2
    go_ret2
    exact ⟨_, by rw [HX.out]; rfl, by rw [← HB.out, HX.out]; exact OwnK.nil_ _ _ _ _, h0⟩
  obtain rfl : n = 0 := by omega
  by_cases hpts : pts ≠ 0
  · have d1 : (pts == 0) = false := by rw [beq_eq_false_iff_ne]; exact hpts
    have d2 : (pts != 0) = true := by rw [bne_iff_ne]; exact hpts
    have HX := Lib.hid (show er = 2 by rw [← HE.out, fe_12 (by simp only; omega)]; exact feU_2 (by simp only; rw [HKL.out]; omega))
    clear ha
    go_enter Tryz.func37, Tryz.ntmps37
    go_upto_region 1 with (fail)
    rw [← HW.out, ← Hbg.out]
    go_wp2
    go_ret2
    exact ⟨_, by rw [HX.out]; rfl, by rw [← HB.out, HX.out]; exact OwnK.nil_ _ _ _ _, h0⟩
  obtain rfl : pts = 0 := by omega
  have HRS := Lib.hid (show rs = [] from List.length_eq_zero_iff.1 HN.out.symm)
  have HX := Lib.hid (show er = 0 by rw [← HE.out, fe_12 (by simp only; omega), feU_p ⟨fun _ => rfl, fun _ => HKL.out, fun _ => rfl⟩, HRS.out]; rfl)
  have HBS := Lib.hid (show [2] = bs by rw [← HB.out, if_pos HX.out, HRS.out]; rfl)
  clear ha
  go_enter Tryz.func37, Tryz.ntmps37
  go_upto_region 1 with (fail)
  rw [← HW.out, ← Hbg.out]
  go_upto_region 18 with (fail)
  obtain ⟨W1, hW1⟩ : ∃ W1, W1 = W.alloc (.cells #[.int .u8 2] 5) := ⟨_, rfl⟩
  have q1 : Below W.heap.size W W1 := by rw [hW1]; exact (Below.refl _ _).alloc (Nat.le_refl _) _
  obtain ⟨v1, hv1⟩ : ∃ v, v = Value.slice (some ⟨w.heap.size + 1, 0, none⟩) 1 1 := ⟨_, rfl⟩
  have own1 : OwnK W1 W.heap.size 5 .u8 v1 [2] := by rw [hW1, hv1, ← hsz]; exact own_lit _ (by decide) _ (Nat.le_refl _)
  rw [← hW1, ← hv1]
  clear hW1 hv1
  have j0 := (q1.cell (p := ⟨bg, 0, none⟩) (lt_of_cell g0)).trans g0
  have j1 := (q1.cell (p := ⟨bg, 1, none⟩) (lt_of_cell g1)).trans g1
  have j2 := (q1.cell (p := ⟨bg, 2, none⟩) (lt_of_cell g2)).trans g2
  have j3 := (q1.cell (p := ⟨bg, 3, none⟩) (lt_of_cell g3)).trans g3
  go_wp2
  go_loopw [5, 6, 7] (fun b i c wr => i = .int .i64 0 ∧ b = v1 ∧ wr = W1) (fun _ _ _ _ => 0)
  case atStart => exact ⟨rfl, rfl, rfl⟩
  case round =>
    obtain ⟨rfl, rfl, rfl⟩ := hrel
    go_wp2
    go_ret2
    exact ⟨_, by rw [HX.out]; rfl, by rw [← HBS.out]; exact (own1).base h0.size, h0.trans (q1.mono h0.size)⟩
set_option maxHeartbeats 1000000 in
theorem ref17Format_3 (vs pts : Int) (A : Option Addr) (n c : Nat) (rs : List Rg) (er : Int) (bs : List Int) (w : World) (ha0 : RowR w (fun g => g < w.heap.size) 3 rgC A rs) (hn : n = rs.length) (hl : n ≤ 9223372036854775807) (he : formErr ⟨3, vs, rs.map rgK, pts⟩ (rgP rs) = er) (hb : (if er = 0 then formB ⟨3, vs, rs.map rgK, pts⟩ else []) = bs) :
    Calls Tryz.prog 37 #[.agg #[.int .i64 3, .int .i64 vs, .slice A n c, .int .i64 pts]] w fun e w' => ∃ v, e = .returned (.tuple #[v, .int .i64 er]) ∧ OwnK w' w.heap.size 5 .u8 v bs ∧ Below w.heap.size w w' := by
  obtain ⟨W, hW⟩ : ∃ W, W = w.alloc (.cells #[.int .i64 3, .int .i64 vs, .slice A n c, .int .i64 pts] 37) := ⟨_, rfl⟩
  obtain ⟨h0, hsz, g0, g1, g2, g3⟩ := box4 hW
  obtain ⟨bg, hbg⟩ : ∃ b, b = w.heap.size := ⟨_, rfl⟩
  rw [← hbg] at g0 g1 g2 g3
  have HW := Lib.hid hW
  have Hbg := Lib.hid hbg
  have ha := (ha0.next h0).imp (T := fun g => g < W.heap.size) fun g hg => by omega
  have HKL := Lib.hid (show (rs.map rgK).length = n by rw [List.length_map, hn])
  have HN := Lib.hid hn
  have HE := Lib.hid he
  have HB := Lib.hid hb
  clear hW hbg hn he hb ha0
  by_cases hv3 : vs < 3
  · have HX := Lib.hid (show er = 6 by rw [← HE.out]; exact fe_3 rfl (.inl hv3))
    clear ha
    go_enter Tryz.func37, Tryz.ntmps37
    go_upto_region 1 with (fail)
    rw [← HW.out, ← Hbg.out]
    go_wp2
    go_ret2
    exact ⟨_, by rw [HX.out]; rfl, by rw [← HB.out, HX.out]; exact OwnK.nil_ _ _ _ _, h0⟩
  by_cases hv4 : 64 < vs
  · have HX := Lib.hid (show er = 6 by rw [← HE.out]; exact fe_3 rfl (.inr hv4))
    clear ha
    go_enter Tryz.func37, Tryz.ntmps37
    go_upto_region 1 with (fail)
    rw [← HW.out, ← Hbg.out]
    go_wp2
    go_ret2
    exact ⟨_, by rw [HX.out]; rfl, by rw [← HB.out, HX.out]; exact OwnK.nil_ _ _ _ _, h0⟩
  by_cases hnn : n ≠ 0
  · have hn1 : 1 ≤ n := by omega
    have HKL0 := hn1
    have HX := Lib.hid (show er = 2 by rw [← HE.out, fe_3u rfl (by simp only; omega)]; exact feU_2 (by simp only; rw [HKL.out]; omega))
    clear ha
    go_enter Tryz.func37, Tryz.ntmps37
    go_upto_region 1 with (fail)
    rw [← HW.out, ← Hbg.out]
    go_wp2
    go_ret2
    exact ⟨_, by rw [HX.out]; rfl, by rw [← HB.out, HX.out]; exact OwnK.nil_ _ _ _ _, h0⟩
  obtain rfl : n = 0 := by omega
  by_cases hpts : pts ≠ 0
  · have d1 : (pts == 0) = false := by rw [beq_eq_false_iff_ne]; exact hpts
    have d2 : (pts != 0) = true := by rw [bne_iff_ne]; exact hpts
    have HX := Lib.hid (show er = 2 by rw [← HE.out, fe_3u rfl (by simp only; omega)]; exact feU_2 (by simp only; rw [HKL.out]; omega))
    clear ha
    go_enter Tryz.func37, Tryz.ntmps37
    go_upto_region 1 with (fail)
    rw [← HW.out, ← Hbg.out]
    go_wp2
    go_ret2
    exact ⟨_, by rw [HX.out]; rfl, by rw [← HB.out, HX.out]; exact OwnK.nil_ _ _ _ _, h0⟩
  obtain rfl : pts = 0 := by omega
  have HRS := Lib.hid (show rs = [] from List.length_eq_zero_iff.1 HN.out.symm)
  have HX := Lib.hid (show er = 0 by rw [← HE.out, fe_3u rfl (by simp only; omega), feU_p ⟨fun h => absurd rfl h, fun _ => HKL.out, fun _ => rfl⟩, HRS.out]; rfl)
  have HBS := Lib.hid (show [3, vs] = bs by rw [← HB.out, if_pos HX.out, HRS.out]; rfl)
  clear ha
  go_enter Tryz.func37, Tryz.ntmps37
  go_upto_region 1 with (fail)
  rw [← HW.out, ← Hbg.out]
  go_upto_region 18 with (fail)
  obtain ⟨W1, hW1⟩ : ∃ W1, W1 = W.alloc (.cells #[.int .u8 3] 5) := ⟨_, rfl⟩
  have q1 : Below W.heap.size W W1 := by rw [hW1]; exact (Below.refl _ _).alloc (Nat.le_refl _) _
  obtain ⟨v1, hv1⟩ : ∃ v, v = Value.slice (some ⟨w.heap.size + 1, 0, none⟩) 1 1 := ⟨_, rfl⟩
  have own1 : OwnK W1 W.heap.size 5 .u8 v1 [3] := by rw [hW1, hv1, ← hsz]; exact own_lit _ (by decide) _ (Nat.le_refl _)
  rw [← hW1, ← hv1]
  clear hW1 hv1
  have j0 := (q1.cell (p := ⟨bg, 0, none⟩) (lt_of_cell g0)).trans g0
  have j1 := (q1.cell (p := ⟨bg, 1, none⟩) (lt_of_cell g1)).trans g1
  have j2 := (q1.cell (p := ⟨bg, 2, none⟩) (lt_of_cell g2)).trans g2
  have j3 := (q1.cell (p := ⟨bg, 3, none⟩) (lt_of_cell g3)).trans g3
  go_wp2_with (first
      | (at_builtin; refine wp_app_lit rfl _ _ rfl W.heap.size _ [3] rfl own1 [vs] 1 1 rfl rfl (by simp) q1.size ?_
         intro v2 W2 own2 hb2
         have q2 := q1.trans hb2
         have k0 := (q2.cell (p := ⟨bg, 0, none⟩) (lt_of_cell g0)).trans g0
         have k1 := (q2.cell (p := ⟨bg, 1, none⟩) (lt_of_cell g1)).trans g1
         have k2 := (q2.cell (p := ⟨bg, 2, none⟩) (lt_of_cell g2)).trans g2
         clear j0 j1 j2))
  go_loopw [5, 6, 7] (fun b i c wr => i = .int .i64 0 ∧ b = v2 ∧ wr = W2) (fun _ _ _ _ => 0)
  case atStart => exact ⟨rfl, rfl, rfl⟩
  case round =>
    obtain ⟨rfl, rfl, rfl⟩ := hrel
    go_wp2
    go_ret2
    exact ⟨_, by rw [HX.out]; rfl, by rw [← HBS.out]; exact (own2).base h0.size, h0.trans ((q1.trans hb2).mono h0.size)⟩
set_option maxHeartbeats 1000000 in
theorem ref17Format_4 (vs pts : Int) (A : Option Addr) (n c : Nat) (rs : List Rg) (er : Int) (bs : List Int) (w : World) (ha0 : RowR w (fun g => g < w.heap.size) 3 rgC A rs) (hn : n = rs.length) (hl : n ≤ 9223372036854775807) (he : formErr ⟨4, vs, rs.map rgK, pts⟩ (rgP rs) = er) (hb : (if er = 0 then formB ⟨4, vs, rs.map rgK, pts⟩ else []) = bs) :
    Calls Tryz.prog 37 #[.agg #[.int .i64 4, .int .i64 vs, .slice A n c, .int .i64 pts]] w fun e w' => ∃ v, e = .returned (.tuple #[v, .int .i64 er]) ∧ OwnK w' w.heap.size 5 .u8 v bs ∧ Below w.heap.size w w' := by
  obtain ⟨W, hW⟩ : ∃ W, W = w.alloc (.cells #[.int .i64 4, .int .i64 vs, .slice A n c, .int .i64 pts] 37) := ⟨_, rfl⟩
  obtain ⟨h0, hsz, g0, g1, g2, g3⟩ := box4 hW
  obtain ⟨bg, hbg⟩ : ∃ b, b = w.heap.size := ⟨_, rfl⟩
  rw [← hbg] at g0 g1 g2 g3
  have HW := Lib.hid hW
  have Hbg := Lib.hid hbg
  have ha := (ha0.next h0).imp (T := fun g => g < W.heap.size) fun g hg => by omega
  have HKL := Lib.hid (show (rs.map rgK).length = n by rw [List.length_map, hn])
  have HN := Lib.hid hn
  have HE := Lib.hid he
  have HB := Lib.hid hb
  clear hW hbg hn he hb ha0
  by_cases hn1 : n < 1
  · have HX := Lib.hid (show er = 6 by rw [← HE.out]; exact fe_len (by simp only; omega) (.inl (by rw [HKL.out]; exact hn1)))
    clear ha
    go_enter Tryz.func37, Tryz.ntmps37
    go_upto_region 1 with (fail)
    rw [← HW.out, ← Hbg.out]
    go_wp2
    go_ret2
    exact ⟨_, by rw [HX.out]; rfl, by rw [← HB.out, HX.out]; exact OwnK.nil_ _ _ _ _, h0⟩
  by_cases hn64 : 64 < n
  · have HX := Lib.hid (show er = 6 by rw [← HE.out]; exact fe_len (by simp only; omega) (.inr (by rw [HKL.out]; exact hn64)))
    clear ha
    go_enter Tryz.func37, Tryz.ntmps37
    go_upto_region 1 with (fail)
    rw [← HW.out, ← Hbg.out]
    go_wp2
    go_ret2
    exact ⟨_, by rw [HX.out]; rfl, by rw [← HB.out, HX.out]; exact OwnK.nil_ _ _ _ _, h0⟩
  have HLN := Lib.hid (show 1 ≤ (rs.map rgK).length ∧ (rs.map rgK).length ≤ 64 by rw [HKL.out]; omega)
  go_enter Tryz.func37, Tryz.ntmps37
  go_upto_region 1 with (fail)
  rw [← HW.out, ← Hbg.out]
  go_wp2
  go_loopw [4] (fun i wr => F1Rel W rs i wr) (fun i _ => n - (intOf i).toNat)
  case atStart => exact ⟨0, rfl, Nat.zero_le _, rfl, rfl⟩
  case round =>
    obtain ⟨k, rfl, hk, hck, hwr⟩ := hrel
    obtain rfl := hwr.symm
    clear hwr
    rw [← HN.out] at hk
    have HK := Lib.hid hck
    clear hck
    by_cases hgo : k < n
    · have hgo2 : k < rs.length := by rw [← HN.out]; exact hgo
      have HS1 := Lib.hid (any_snoc hgo2)
      obtain ⟨b, o, rfl, _, d, v, A2, m2, c2, hd, hv, hm, k0, k1, k2⟩ := rgs_at ha hgo2
      rw [hv, HK.out, Bool.false_or] at HS1
      obtain ⟨s, hs⟩ : ∃ s, sizeF v = s := ⟨_, rfl⟩
      rw [hs] at HS1
      have HS := Lib.hid hs
      clear hs hd hv hm ha
      go_wp2_with (fail)
      refine (ref16Size_any v s _ HS.out).mono ?_
      rintro e w2 ⟨rfl, hw2⟩
      obtain rfl := hw2.symm
      by_cases e1 : s = 0
      · have HX := Lib.hid (show er = 7 by rw [← HE.out]; exact fe_bad (by simp only; omega) HLN.out (any_of_take (k := k + 1) (by rw [HS1.out, e1]; rfl)))
        subst e1
        go_wp2
        go_ret2
        exact ⟨_, by rw [HX.out]; rfl, by rw [← HB.out, HX.out]; exact OwnK.nil_ _ _ _ _, h0⟩
      · have d1 : (s == 0) = false := by rw [beq_eq_false_iff_ne]; exact e1
        have HS2 := Lib.hid (show anyBad ((rs.take (k + 1)).map rgK) = false by rw [HS1.out]; exact decide_eq_false e1)
        clear e1
        go_wp2
        go_roundw
        case rel => exact ⟨k + 1, by go_num, by rw [← HN.out]; omega, HS2.out, rfl⟩
        case measure => simp [intOf]; omega
    · have HA := Lib.hid (show anyBad (rs.map rgK) = false by rw [← HK.out, List.take_of_length_le (by rw [← HN.out]; omega)])
      by_cases hvs : vs ≠ 0
      · have d1 : (vs == 0) = false := by rw [beq_eq_false_iff_ne]; exact hvs
        have d2 : (vs != 0) = true := by rw [bne_iff_ne]; exact hvs
        have HX := Lib.hid (show er = 2 by rw [← HE.out, fe_4u rfl HLN.out HA.out]; exact feU_2 (by simp only; omega))
        clear ha
        go_wp2
        go_ret2
        exact ⟨_, by rw [HX.out]; rfl, by rw [← HB.out, HX.out]; exact OwnK.nil_ _ _ _ _, h0⟩
      obtain rfl : vs = 0 := by omega
      by_cases hpts : pts ≠ 0
      · have d1 : (pts == 0) = false := by rw [beq_eq_false_iff_ne]; exact hpts
        have d2 : (pts != 0) = true := by rw [bne_iff_ne]; exact hpts
        have HX := Lib.hid (show er = 2 by rw [← HE.out, fe_4u rfl HLN.out HA.out]; exact feU_2 (by simp only; omega))
        clear ha
        go_wp2
        go_ret2
        exact ⟨_, by rw [HX.out]; rfl, by rw [← HB.out, HX.out]; exact OwnK.nil_ _ _ _ _, h0⟩
      obtain rfl : pts = 0 := by omega
      have HU := Lib.hid (show er = if rgP rs = true then 2 else 0 by rw [← HE.out, fe_4u rfl HLN.out HA.out, feU_p ⟨fun _ => rfl, fun h => absurd h (by simp only; omega), fun _ => rfl⟩])
      have HBd := Lib.hid (fun (j : Nat) (hj : j < rs.length) => bd_of_any HA.out hj)
      go_upto_region 18 with (fail)
      obtain ⟨W1, hW1⟩ : ∃ W1, W1 = W.alloc (.cells #[.int .u8 4] 5) := ⟨_, rfl⟩
      have q1 : Below W.heap.size W W1 := by rw [hW1]; exact (Below.refl _ _).alloc (Nat.le_refl _) _
      obtain ⟨v1, hv1⟩ : ∃ v, v = Value.slice (some ⟨w.heap.size + 1, 0, none⟩) 1 1 := ⟨_, rfl⟩
      have own1 : OwnK W1 W.heap.size 5 .u8 v1 [4] := by rw [hW1, hv1, ← hsz]; exact own_lit _ (by decide) _ (Nat.le_refl _)
      rw [← hW1, ← hv1]
      clear hW1 hv1
      have j0 := (q1.cell (p := ⟨bg, 0, none⟩) (lt_of_cell g0)).trans g0
      have j1 := (q1.cell (p := ⟨bg, 1, none⟩) (lt_of_cell g1)).trans g1
      have j2 := (q1.cell (p := ⟨bg, 2, none⟩) (lt_of_cell g2)).trans g2
      have j3 := (q1.cell (p := ⟨bg, 3, none⟩) (lt_of_cell g3)).trans g3
      go_wp2_with (first
        | (at_builtin; refine wp_app_lit rfl _ _ rfl W.heap.size _ [4] rfl own1 [(n : Int)] 1 1 rfl rfl (by simp) q1.size ?_
           intro v2 W2 own2 hb2
           have q2 := q1.trans hb2
           have k0 := (q2.cell (p := ⟨bg, 0, none⟩) (lt_of_cell g0)).trans g0
           have k1 := (q2.cell (p := ⟨bg, 1, none⟩) (lt_of_cell g1)).trans g1
           have k2 := (q2.cell (p := ⟨bg, 2, none⟩) (lt_of_cell g2)).trans g2
           clear j0 j1 j2 j3))
      go_loopw [5, 6, 7] (fun b i c wr => F2Rel W rs [4, (n : Int)] b i c wr) (fun _ i _ _ => n - (intOf i).toNat)
      case atStart => exact ⟨0, rfl, Nat.zero_le _, rfl, own2, q2⟩
      case round =>
        clear k0 k1 k2 q2 own2 own1 q1 hb2
        obtain ⟨j, rfl, hj, hp, hown, hbr⟩ := hrel
        rw [← HN.out] at hj
        have HP := Lib.hid hp
        have HO := Lib.hid hown
        clear hp hown
        have k0 := (hbr.cell (p := ⟨bg, 0, none⟩) (lt_of_cell g0)).trans g0
        have k2 := (hbr.cell (p := ⟨bg, 2, none⟩) (lt_of_cell g2)).trans g2
        have k3 := (hbr.cell (p := ⟨bg, 3, none⟩) (lt_of_cell g3)).trans g3
        clear g0 g1 g2 g3
        by_cases hgj : j < n
        · have hgj2 : j < rs.length := by rw [← HN.out]; exact hgj
          have HP1 := Lib.hid (rgP_snoc hgj2)
          have HB1 := Lib.hid (bytes_snoc hgj2 [4, (n : Int)])
          have hvb := HBd.out j hgj2
          obtain ⟨b, o, rfl, _, d, v, A2, m2, c2, hd, hv, hm, i0, i1, i2⟩ := rgs_at (ha.next hbr) hgj2
          rw [hm, HP.out, Bool.false_or] at HP1
          rw [show rgK rs[j] = (d, v) from Prod.ext hd hv] at HB1
          rw [hv] at hvb
          clear hd hv hm ha
          by_cases hm0 : m2 = 0
          · subst hm0
            have HP2 := Lib.hid (show rgP (rs.take (j + 1)) = false by rw [HP1.out]; rfl)
            cases d
            · go_wp2_with (first
                | (at_builtin; refine wp_app_lit rfl _ _ rfl W.heap.size _ _ rfl HO.out [v] 1 1 rfl rfl (by simp; omega) hbr.size ?_
                   intro v3 W3 own3 hb3))
              go_roundw
              case rel => exact ⟨j + 1, by go_num, by rw [← HN.out]; omega, HP2.out, by rw [HB1.out]; exact own3, hbr.trans hb3⟩
              case measure => simp [intOf]; omega
            · go_wp2_with (first
                | (at_builtin; refine wp_app_lit rfl _ _ rfl W.heap.size _ _ rfl HO.out [v + 128] 1 1 rfl rfl (by simp; omega) hbr.size ?_
                   intro v3 W3 own3 hb3))
              go_roundw
              case rel => exact ⟨j + 1, by go_num, by rw [← HN.out]; omega, HP2.out, by rw [HB1.out]; exact own3, hbr.trans hb3⟩
              case measure => simp [intOf]; omega
          · have HX := Lib.hid (show er = 2 by rw [HU.out, if_pos (rgP_of_take (k := j + 1) (by rw [HP1.out]; simp; omega))])
            have hm1 : 1 ≤ m2 := by omega
            have h1 := h0.trans (hbr.mono h0.size)
            go_wp2
            go_ret2
            exact ⟨_, by rw [HX.out]; rfl, by rw [← HB.out, HX.out]; exact OwnK.nil_ _ _ _ _, h1⟩
        · have HT := Lib.hid (show rs.take j = rs from List.take_of_length_le (by rw [← HN.out]; omega))
          rw [HT.out] at HP HO
          have HX := Lib.hid (show er = 0 by rw [HU.out, HP.out]; rfl)
          have HBS := Lib.hid (show [4, (n : Int)] ++ (rs.map rgK).map rgB = bs by rw [← HB.out, if_pos HX.out]; unfold formB; rw [HKL.out]; simp)
          have hjn : j ≤ 64 := by omega
          have h1 := h0.trans (hbr.mono h0.size)
          clear ha
          go_wp2
          go_ret2
          exact ⟨_, by rw [HX.out]; rfl, by rw [← HBS.out]; exact HO.out.base h0.size, h1⟩
set_option maxHeartbeats 1000000 in
theorem ref17Format_5 (vs pts : Int) (A : Option Addr) (n c : Nat) (rs : List Rg) (er : Int) (bs : List Int) (w : World) (ha0 : RowR w (fun g => g < w.heap.size) 3 rgC A rs) (hn : n = rs.length) (hl : n ≤ 9223372036854775807) (he : formErr ⟨5, vs, rs.map rgK, pts⟩ (rgP rs) = er) (hb : (if er = 0 then formB ⟨5, vs, rs.map rgK, pts⟩ else []) = bs) :
    Calls Tryz.prog 37 #[.agg #[.int .i64 5, .int .i64 vs, .slice A n c, .int .i64 pts]] w fun e w' => ∃ v, e = .returned (.tuple #[v, .int .i64 er]) ∧ OwnK w' w.heap.size 5 .u8 v bs ∧ Below w.heap.size w w' := by
  obtain ⟨W, hW⟩ : ∃ W, W = w.alloc (.cells #[.int .i64 5, .int .i64 vs, .slice A n c, .int .i64 pts] 37) := ⟨_, rfl⟩
  obtain ⟨h0, hsz, g0, g1, g2, g3⟩ := box4 hW
  obtain ⟨bg, hbg⟩ : ∃ b, b = w.heap.size := ⟨_, rfl⟩
  rw [← hbg] at g0 g1 g2 g3
  have HW := Lib.hid hW
  have Hbg := Lib.hid hbg
  have ha := (ha0.next h0).imp (T := fun g => g < W.heap.size) fun g hg => by omega
  have HKL := Lib.hid (show (rs.map rgK).length = n by rw [List.length_map, hn])
  have HN := Lib.hid hn
  have HE := Lib.hid he
  have HB := Lib.hid hb
  clear hW hbg hn he hb ha0
  by_cases hn1 : n < 1
  · have HX := Lib.hid (show er = 6 by rw [← HE.out]; exact fe_len (by simp only; omega) (.inl (by rw [HKL.out]; exact hn1)))
    clear ha
    go_enter Tryz.func37, Tryz.ntmps37
    go_upto_region 1 with (fail)
    rw [← HW.out, ← Hbg.out]
    go_wp2
    go_ret2
    exact ⟨_, by rw [HX.out]; rfl, by rw [← HB.out, HX.out]; exact OwnK.nil_ _ _ _ _, h0⟩
  by_cases hn64 : 64 < n
  · have HX := Lib.hid (show er = 6 by rw [← HE.out]; exact fe_len (by simp only; omega) (.inr (by rw [HKL.out]; exact hn64)))
    clear ha
    go_enter Tryz.func37, Tryz.ntmps37
    go_upto_region 1 with (fail)
    rw [← HW.out, ← Hbg.out]
    go_wp2
    go_ret2
    exact ⟨_, by rw [HX.out]; rfl, by rw [← HB.out, HX.out]; exact OwnK.nil_ _ _ _ _, h0⟩
  have HLN := Lib.hid (show 1 ≤ (rs.map rgK).length ∧ (rs.map rgK).length ≤ 64 by rw [HKL.out]; omega)
  go_enter Tryz.func37, Tryz.ntmps37
  go_upto_region 1 with (fail)
  rw [← HW.out, ← Hbg.out]
  go_wp2
  go_loopw [4] (fun i wr => F1Rel W rs i wr) (fun i _ => n - (intOf i).toNat)
  case atStart => exact ⟨0, rfl, Nat.zero_le _, rfl, rfl⟩
  case round =>
    obtain ⟨k, rfl, hk, hck, hwr⟩ := hrel
    obtain rfl := hwr.symm
    clear hwr
    rw [← HN.out] at hk
    have HK := Lib.hid hck
    clear hck
    by_cases hgo : k < n
    · have hgo2 : k < rs.length := by rw [← HN.out]; exact hgo
      have HS1 := Lib.hid (any_snoc hgo2)
      obtain ⟨b, o, rfl, _, d, v, A2, m2, c2, hd, hv, hm, k0, k1, k2⟩ := rgs_at ha hgo2
      rw [hv, HK.out, Bool.false_or] at HS1
      obtain ⟨s, hs⟩ : ∃ s, sizeF v = s := ⟨_, rfl⟩
      rw [hs] at HS1
      have HS := Lib.hid hs
      clear hs hd hv hm ha
      go_wp2_with (fail)
      refine (ref16Size_any v s _ HS.out).mono ?_
      rintro e w2 ⟨rfl, hw2⟩
      obtain rfl := hw2.symm
      by_cases e1 : s = 0
      · have HX := Lib.hid (show er = 7 by rw [← HE.out]; exact fe_bad (by simp only; omega) HLN.out (any_of_take (k := k + 1) (by rw [HS1.out, e1]; rfl)))
        subst e1
        go_wp2
        go_ret2
        exact ⟨_, by rw [HX.out]; rfl, by rw [← HB.out, HX.out]; exact OwnK.nil_ _ _ _ _, h0⟩
      · have d1 : (s == 0) = false := by rw [beq_eq_false_iff_ne]; exact e1
        have HS2 := Lib.hid (show anyBad ((rs.take (k + 1)).map rgK) = false by rw [HS1.out]; exact decide_eq_false e1)
        clear e1
        go_wp2
        go_roundw
        case rel => exact ⟨k + 1, by go_num, by rw [← HN.out]; omega, HS2.out, rfl⟩
        case measure => simp [intOf]; omega
    · have HA := Lib.hid (show anyBad (rs.map rgK) = false by rw [← HK.out, List.take_of_length_le (by rw [← HN.out]; omega)])
      by_cases hp1 : pts < 1
      · have HX := Lib.hid (show er = 6 by rw [← HE.out]; exact fe_5p rfl HLN.out HA.out (.inl hp1))
        clear ha
        go_wp2
        go_ret2
        exact ⟨_, by rw [HX.out]; rfl, by rw [← HB.out, HX.out]; exact OwnK.nil_ _ _ _ _, h0⟩
      by_cases hp4 : 4096 < pts
      · have HX := Lib.hid (show er = 6 by rw [← HE.out]; exact fe_5p rfl HLN.out HA.out (.inr hp4))
        clear ha
        go_wp2
        go_ret2
        exact ⟨_, by rw [HX.out]; rfl, by rw [← HB.out, HX.out]; exact OwnK.nil_ _ _ _ _, h0⟩
      by_cases hvs : vs ≠ 0
      · have d1 : (vs == 0) = false := by rw [beq_eq_false_iff_ne]; exact hvs
        have d2 : (vs != 0) = true := by rw [bne_iff_ne]; exact hvs
        have HX := Lib.hid (show er = 2 by rw [← HE.out, fe_5u rfl HLN.out HA.out ⟨by simp only; omega, by simp only; omega⟩]; exact feU_2 (by simp only; omega))
        clear ha
        go_wp2
        go_ret2
        exact ⟨_, by rw [HX.out]; rfl, by rw [← HB.out, HX.out]; exact OwnK.nil_ _ _ _ _, h0⟩
      obtain rfl : vs = 0 := by omega
      have HU := Lib.hid (show er = if rgP rs = true then 2 else 0 by rw [← HE.out, fe_5u rfl HLN.out HA.out ⟨by simp only; omega, by simp only; omega⟩, feU_p ⟨fun _ => rfl, fun h => absurd h (by simp only; omega), fun h => absurd rfl h⟩])
      have HBd := Lib.hid (fun (j : Nat) (hj : j < rs.length) => bd_of_any HA.out hj)
      go_upto_region 18 with (fail)
      obtain ⟨W1, hW1⟩ : ∃ W1, W1 = W.alloc (.cells #[.int .u8 5] 5) := ⟨_, rfl⟩
      have q1 : Below W.heap.size W W1 := by rw [hW1]; exact (Below.refl _ _).alloc (Nat.le_refl _) _
      obtain ⟨v1, hv1⟩ : ∃ v, v = Value.slice (some ⟨w.heap.size + 1, 0, none⟩) 1 1 := ⟨_, rfl⟩
      have own1 : OwnK W1 W.heap.size 5 .u8 v1 [5] := by rw [hW1, hv1, ← hsz]; exact own_lit _ (by decide) _ (Nat.le_refl _)
      rw [← hW1, ← hv1]
      clear hW1 hv1
      have j0 := (q1.cell (p := ⟨bg, 0, none⟩) (lt_of_cell g0)).trans g0
      have j1 := (q1.cell (p := ⟨bg, 1, none⟩) (lt_of_cell g1)).trans g1
      have j2 := (q1.cell (p := ⟨bg, 2, none⟩) (lt_of_cell g2)).trans g2
      have j3 := (q1.cell (p := ⟨bg, 3, none⟩) (lt_of_cell g3)).trans g3
      go_wp2_with (first
        | (at_builtin; refine wp_app_lit rfl _ _ rfl W.heap.size _ [5] rfl own1 [(n : Int)] 1 1 rfl rfl (by simp) q1.size ?_
           intro v2 W2 own2 hb2
           have q2 := q1.trans hb2
           have k0 := (q2.cell (p := ⟨bg, 0, none⟩) (lt_of_cell g0)).trans g0
           have k1 := (q2.cell (p := ⟨bg, 1, none⟩) (lt_of_cell g1)).trans g1
           have k2 := (q2.cell (p := ⟨bg, 2, none⟩) (lt_of_cell g2)).trans g2
           clear j0 j1 j2 j3))
      go_loopw [5, 6, 7] (fun b i c wr => F2Rel W rs [5, (n : Int)] b i c wr) (fun _ i _ _ => n - (intOf i).toNat)
      case atStart => exact ⟨0, rfl, Nat.zero_le _, rfl, own2, q2⟩
      case round =>
        clear k0 k1 k2 q2 own2 own1 q1 hb2
        obtain ⟨j, rfl, hj, hp, hown, hbr⟩ := hrel
        rw [← HN.out] at hj
        have HP := Lib.hid hp
        have HO := Lib.hid hown
        clear hp hown
        have k0 := (hbr.cell (p := ⟨bg, 0, none⟩) (lt_of_cell g0)).trans g0
        have k2 := (hbr.cell (p := ⟨bg, 2, none⟩) (lt_of_cell g2)).trans g2
        have k3 := (hbr.cell (p := ⟨bg, 3, none⟩) (lt_of_cell g3)).trans g3
        clear g0 g1 g2 g3
        by_cases hgj : j < n
        · have hgj2 : j < rs.length := by rw [← HN.out]; exact hgj
          have HP1 := Lib.hid (rgP_snoc hgj2)
          have HB1 := Lib.hid (bytes_snoc hgj2 [5, (n : Int)])
          have hvb := HBd.out j hgj2
          obtain ⟨b, o, rfl, _, d, v, A2, m2, c2, hd, hv, hm, i0, i1, i2⟩ := rgs_at (ha.next hbr) hgj2
          rw [hm, HP.out, Bool.false_or] at HP1
          rw [show rgK rs[j] = (d, v) from Prod.ext hd hv] at HB1
          rw [hv] at hvb
          clear hd hv hm ha
          by_cases hm0 : m2 = 0
          · subst hm0
            have HP2 := Lib.hid (show rgP (rs.take (j + 1)) = false by rw [HP1.out]; rfl)
            cases d
            · go_wp2_with (first
                | (at_builtin; refine wp_app_lit rfl _ _ rfl W.heap.size _ _ rfl HO.out [v] 1 1 rfl rfl (by simp; omega) hbr.size ?_
                   intro v3 W3 own3 hb3))
              go_roundw
              case rel => exact ⟨j + 1, by go_num, by rw [← HN.out]; omega, HP2.out, by rw [HB1.out]; exact own3, hbr.trans hb3⟩
              case measure => simp [intOf]; omega
            · go_wp2_with (first
                | (at_builtin; refine wp_app_lit rfl _ _ rfl W.heap.size _ _ rfl HO.out [v + 128] 1 1 rfl rfl (by simp; omega) hbr.size ?_
                   intro v3 W3 own3 hb3))
              go_roundw
              case rel => exact ⟨j + 1, by go_num, by rw [← HN.out]; omega, HP2.out, by rw [HB1.out]; exact own3, hbr.trans hb3⟩
              case measure => simp [intOf]; omega
          · have HX := Lib.hid (show er = 2 by rw [HU.out, if_pos (rgP_of_take (k := j + 1) (by rw [HP1.out]; simp; omega))])
            have hm1 : 1 ≤ m2 := by omega
            have h1 := h0.trans (hbr.mono h0.size)
            go_wp2
            go_ret2
            exact ⟨_, by rw [HX.out]; rfl, by rw [← HB.out, HX.out]; exact OwnK.nil_ _ _ _ _, h1⟩
        · have HT := Lib.hid (show rs.take j = rs from List.take_of_length_le (by rw [← HN.out]; omega))
          rw [HT.out] at HP HO
          have HX := Lib.hid (show er = 0 by rw [HU.out, HP.out]; rfl)
          have HBS := Lib.hid (show [5, (n : Int)] ++ (rs.map rgK).map rgB ++ [pts % 256, pts / 256] = bs by rw [← HB.out, if_pos HX.out]; unfold formB; rw [HKL.out]; simp)
          have hjn : j ≤ 64 := by omega
          have h1 := h0.trans (hbr.mono h0.size)
          clear ha
          have hrl : rs.length ≤ 64 := by rw [← HN.out]; omega
          go_wp2_with (first
            | (at_builtin; refine wp_app_lit rfl _ _ rfl W.heap.size _ _ rfl HO.out [pts % 256, pts / 256] 2 2 rfl rfl (by simp; omega) hbr.size ?_
               intro v3 W3 own3 hb3))
          go_ret2
          exact ⟨_, by rw [HX.out]; rfl, by rw [← HBS.out]; exact own3.base h0.size, h0.trans ((hbr.trans hb3).mono h0.size)⟩
end Go.Proofs.YthmkllpdkcmccaaGreatDoor
namespace Go.Proofs.YthmkllpdkcmccaaGreatDoor
open Go.RowKit Go.Maps
set_option maxRecDepth 100000
set_option linter.unusedVariables false
set_option linter.unusedSimpArgs false

theorem UB.at_ {l : List Int} (h : UB l) (k : Nat) : 0 ≤ Go.Proofs.YthmkllpdkcmccaaGreatDoor.dgt l k ∧ Go.Proofs.YthmkllpdkcmccaaGreatDoor.dgt l k ≤ 255 := by have := h.dgt k; omega
/-- A block of four cells. -/
def Box4 (w : World) (b : Nat) (x y z u : Value) (t : TypeId) : Prop := w.heap[b]? = some (.cells #[x, y, z, u] t (0, 0))
theorem Box4.at_ {w : World} {b : Nat} {x y z u : Value} {t : TypeId} (h : Box4 w b x y z u t) : (w.cell? ⟨b, 0, none⟩ = some x ∧ w.cell? ⟨b, 1, none⟩ = some y ∧ w.cell? ⟨b, 2, none⟩ = some z ∧ w.cell? ⟨b, 3, none⟩ = some u) ∧
    (w.frozen? ⟨b, 0, none⟩ = false ∧ w.frozen? ⟨b, 1, none⟩ = false ∧ w.frozen? ⟨b, 2, none⟩ = false ∧ w.frozen? ⟨b, 3, none⟩ = false) := by
  unfold Box4 at h
  refine ⟨⟨?_, ?_, ?_, ?_⟩, ?_, ?_, ?_, ?_⟩ <;> simp [World.cell?, World.frozen?, h]
theorem Box4.new {w : World} {x y z u : Value} {t : TypeId} : Box4 (w.alloc (.cells #[x, y, z, u] t)) w.heap.size x y z u t := heap_alloc_new w _
theorem Box4.lt {w : World} {b : Nat} {x y z u : Value} {t : TypeId} (h : Box4 w b x y z u t) : b < w.heap.size := by
  unfold Box4 at h; exact (Array.getElem?_eq_some_iff.1 h).1
theorem Box4.next {w w' : World} {b : Nat} {x y z u : Value} {t : TypeId} (h : Box4 w b x y z u t) {B : Nat} (hb : Below B w w') (hB : b < B) : Box4 w' b x y z u t := by
  unfold Box4 at h ⊢
  rw [hb.block b hB]; exact h
theorem Box4.other {w : World} {b : Nat} {x y z u : Value} {t : TypeId} (h : Box4 w b x y z u t) {c o : Nat} (hne : b ≠ c) (v : Value) : Box4 (w.setCell ⟨c, o, none⟩ v) b x y z u t := by
  unfold Box4 at h ⊢
  rw [Below.heap_setCell _ _ _ _ hne]; exact h
theorem Box4.set {w : World} {b : Nat} {x y z u : Value} {t : TypeId} (h : Box4 w b x y z u t) (v : Value) :
    Box4 (w.setCell ⟨b, 0, none⟩ v) b v y z u t ∧ Box4 (w.setCell ⟨b, 1, none⟩ v) b x v z u t ∧ Box4 (w.setCell ⟨b, 2, none⟩ v) b x y v u t ∧ Box4 (w.setCell ⟨b, 3, none⟩ v) b x y z v t := by
  unfold Box4 at h ⊢
  refine ⟨?_, ?_, ?_, ?_⟩ <;> (show (w.heap.modify b _)[b]? = _; rw [Array.getElem?_modify, if_pos rfl, h]; rfl)
def rg0 (k : Bool × Int) : Rg := ⟨k.1, k.2, none, 0, []⟩
/-- What stands between two rounds. -/
structure PR (w : World) (base bz bh : Nat) (x : Int) (ks : List (Bool × Int)) (j : Nat) (v : Value) (wr : World) : Prop where
  low : Below w.heap.size w wr
  size : base ≤ wr.heap.size
  z : Box4 wr bz (.int .i64 0) (.int .i64 0) (.slice none 0 0) (.int .i64 0) 37
  y : Box4 wr bh (.int .i64 x) (.int .i64 0) v (.int .i64 0) 37
  row : wr.ownsRow base 53 3 v j (((ks.take j).map rg0).flatMap rgC)
def BoxE3 (w : World) (b : Nat) (x y z : Value) (t : TypeId) : Prop := w.heap[b]? = some (.cells #[x, y, z] t (0, 0))
theorem BoxE3.at_ {w : World} {b : Nat} {x y z : Value} {t : TypeId} (h : BoxE3 w b x y z t) : (w.cell? ⟨b, 0, none⟩ = some x ∧ w.cell? ⟨b, 1, none⟩ = some y ∧ w.cell? ⟨b, 2, none⟩ = some z) ∧
    (w.frozen? ⟨b, 0, none⟩ = false ∧ w.frozen? ⟨b, 1, none⟩ = false ∧ w.frozen? ⟨b, 2, none⟩ = false) := by
  unfold BoxE3 at h
  refine ⟨⟨?_, ?_, ?_⟩, ?_, ?_, ?_⟩ <;> simp [World.cell?, World.frozen?, h]
theorem put3 {w W w0 : World} {b B : Nat} {x y z x0 y0 z0 : Value} {t : TypeId} (h : BoxE3 w b x0 y0 z0 t) (hb : Below B w0 w) (hB : B ≤ b) (hW : ((w.setCell ⟨b, 0, none⟩ x).setCell ⟨b, 1, none⟩ y).setCell ⟨b, 2, none⟩ z = W) :
    BoxE3 W b x y z t ∧ Below B w0 W := by
  subst hW
  refine ⟨?_, ((hb.setCell (p := ⟨b, 0, none⟩) hB x).setCell (p := ⟨b, 1, none⟩) hB y).setCell (p := ⟨b, 2, none⟩) hB z⟩
  have h1 : BoxE3 (w.setCell ⟨b, 0, none⟩ x) b x y0 z0 t := by
    unfold BoxE3 at h ⊢
    show (w.heap.modify b _)[b]? = _; rw [Array.getElem?_modify, if_pos rfl, h]; rfl
  have h2 : BoxE3 ((w.setCell ⟨b, 0, none⟩ x).setCell ⟨b, 1, none⟩ y) b x y z0 t := by
    unfold BoxE3 at h1 ⊢
    show ((w.setCell ⟨b, 0, none⟩ x).heap.modify b _)[b]? = _; rw [Array.getElem?_modify, if_pos rfl, h1]; rfl
  unfold BoxE3 at h2 ⊢
  show (((w.setCell ⟨b, 0, none⟩ x).setCell ⟨b, 1, none⟩ y).heap.modify b _)[b]? = _; rw [Array.getElem?_modify, if_pos rfl, h2]; rfl
theorem PR.grow {w : World} {base bz bh : Nat} {x : Int} {ks : List (Bool × Int)} {j : Nat} {v v' : Value} {W w5 : World} {k : Bool × Int} (h : PR w base bz bh x ks j v W) (ob : Obj) (hbase : w.heap.size ≤ base) (hz : bz < base) (hh : bh < base) (hzh : bz ≠ bh) (hh2 : w.heap.size ≤ bh)
    (hr : w5.ownsRow base 53 3 v' (j + 1) ((((ks.take j).map rg0).flatMap rgC) ++ [rg0 k].flatMap rgC)) (hg : (W.alloc ob).grownBy w5 v.ownBlock) (hk : ks.take (j + 1) = ks.take j ++ [k]) :
    Box4 w5 bh (.int .i64 x) (.int .i64 0) v (.int .i64 0) 37 ∧ PR w base bz bh x ks (j + 1) v' (w5.setCell ⟨bh, 2, none⟩ v') := by
  have hsz := h.size
  have hal : Below W.heap.size W (W.alloc ob) := (Below.refl _ _).alloc (Nat.le_refl _) _
  have hown : ∀ g, v.ownBlock = some g → base ≤ g := fun g hg => (World.ownsRow.lt h.row g hg).1
  have hlow5 : Below w.heap.size w w5 := (h.low.trans (hal.mono h.low.size)).grown hg (by have := h.low.size; simp; omega) fun g hg => by have := hown g hg; omega
  have hbl : ∀ g, g < base → w5.heap[g]? = W.heap[g]? := fun g hg' => (hg.block g (by simp; omega) (fun e => by have := hown g e.symm; omega)).trans (hal.block g (by omega))
  have z5 : Box4 w5 bz (.int .i64 0) (.int .i64 0) (.slice none 0 0) (.int .i64 0) 37 := (hbl bz hz).trans h.z
  have y5 : Box4 w5 bh (.int .i64 x) (.int .i64 0) v (.int .i64 0) 37 := (hbl bh hh).trans h.y
  refine ⟨y5, hlow5.setCell (p := ⟨bh, 2, none⟩) hh2 _, by have := hg.size; simp at this ⊢; omega, z5.other hzh _, (y5.set v').2.2.1, ?_⟩
  rw [hk, List.map_append, List.flatMap_append]
  exact row_keep hr fun g hg => Below.heap_setCell _ _ _ _ (fun e => by have := (World.ownsRow.lt hr g hg).1; simp at e; omega)
end Go.Proofs.YthmkllpdkcmccaaGreatDoor
namespace Go.Proofs.YthmkllpdkcmccaaGreatDoor
open Go.RowKit Go.Maps
set_option maxRecDepth 100000
set_option linter.unusedVariables false
set_option linter.unusedSimpArgs false

/-- What Format gives. -/
def GivesB (w : World) (er : Int) (bs : List Int) (e : Ending) (w' : World) : Prop := ∃ v, e = .returned (.tuple #[v, .int .i64 er]) ∧ OwnK w' w.heap.size 5 .u8 v bs ∧ Below w.heap.size w w'
theorem ref17Format_any (op vs pts : Int) (A : Option Addr) (n c : Nat) (rs : List Rg) (er : Int) (bs : List Int) (w : World) (ha : RowR w (fun g => g < w.heap.size) 3 rgC A rs) (hn : n = rs.length) (hl : n ≤ 9223372036854775807) (he : formErr ⟨op, vs, rs.map rgK, pts⟩ (rgP rs) = er) (hb : (if er = 0 then formB ⟨op, vs, rs.map rgK, pts⟩ else []) = bs) :
    Calls Tryz.prog 37 #[.agg #[.int .i64 op, .int .i64 vs, .slice A n c, .int .i64 pts]] w (GivesB w er bs) := by
  by_cases h : op < 1 ∨ 5 < op
  · exact ref17Format_bad op vs pts A n c rs er bs w ha hn hl h he hb
  · rcases (show op = 1 ∨ op = 2 ∨ op = 3 ∨ op = 4 ∨ op = 5 by omega) with rfl | rfl | rfl | rfl | rfl
    · exact ref17Format_1 vs pts A n c rs er bs w ha hn hl he hb
    · exact ref17Format_2 vs pts A n c rs er bs w ha hn hl he hb
    · exact ref17Format_3 vs pts A n c rs er bs w ha hn hl he hb
    · exact ref17Format_4 vs pts A n c rs er bs w ha hn hl he hb
    · exact ref17Format_5 vs pts A n c rs er bs w ha hn hl he hb
end Go.Proofs.YthmkllpdkcmccaaGreatDoor
namespace Go.Proofs.YthmkllpdkcmccaaGreatDoor
open Go.RowKit
set_option maxRecDepth 100000
set_option linter.unusedVariables false
set_option linter.unusedSimpArgs false

theorem box7 {w W : World} {t : TypeId} {a b c d e f g : Value} (hW : W = w.alloc (.cells #[a, b, c, d, e, f, g] t)) :
    Below w.heap.size w W ∧ W.heap.size = w.heap.size + 1 ∧ W.cell? ⟨w.heap.size, 0, none⟩ = some a ∧ W.cell? ⟨w.heap.size, 1, none⟩ = some b ∧ W.cell? ⟨w.heap.size, 2, none⟩ = some c ∧ W.cell? ⟨w.heap.size, 3, none⟩ = some d ∧ W.cell? ⟨w.heap.size, 4, none⟩ = some e ∧ W.cell? ⟨w.heap.size, 5, none⟩ = some f ∧ W.cell? ⟨w.heap.size, 6, none⟩ = some g := by
  subst hW
  refine ⟨(Below.refl _ _).alloc (Nat.le_refl _) _, by simp, ?_, ?_, ?_, ?_, ?_, ?_, ?_⟩ <;> simp [go_sem]
/-- The seven cells of a request's box. -/
structure ReqAt (w : World) (B : Nat) (op vx pts : Int) (hA : Option Addr) (hn hc : Nat) (RA : Option Addr) (rn rc : Nat) (PA : Option Addr) (pn pc : Nat) (QA : Option Addr) (qn qc : Nat) : Prop where
  c0 : w.cell? ⟨B, 0, none⟩ = some (.int .i64 op)
  c1 : w.cell? ⟨B, 1, none⟩ = some (.int .i64 vx)
  c2 : w.cell? ⟨B, 2, none⟩ = some (.slice hA hn hc)
  c3 : w.cell? ⟨B, 3, none⟩ = some (.int .i64 pts)
  c4 : w.cell? ⟨B, 4, none⟩ = some (.slice RA rn rc)
  c5 : w.cell? ⟨B, 5, none⟩ = some (.slice PA pn pc)
  c6 : w.cell? ⟨B, 6, none⟩ = some (.slice QA qn qc)
theorem ReqAt.next {w w' : World} {B : Nat} {op vx pts : Int} {hA : Option Addr} {hn hc : Nat} {RA : Option Addr} {rn rc : Nat} {PA : Option Addr} {pn pc : Nat} {QA : Option Addr} {qn qc : Nat} (h : ReqAt w B op vx pts hA hn hc RA rn rc PA pn pc QA qn qc) {C : Nat} (hb : Below C w w') (hB : B < C) : ReqAt w' B op vx pts hA hn hc RA rn rc PA pn pc QA qn qc :=
  ⟨(hb.cell (p := ⟨B, 0, none⟩) hB).trans h.c0, (hb.cell (p := ⟨B, 1, none⟩) hB).trans h.c1, (hb.cell (p := ⟨B, 2, none⟩) hB).trans h.c2, (hb.cell (p := ⟨B, 3, none⟩) hB).trans h.c3, (hb.cell (p := ⟨B, 4, none⟩) hB).trans h.c4, (hb.cell (p := ⟨B, 5, none⟩) hB).trans h.c5, (hb.cell (p := ⟨B, 6, none⟩) hB).trans h.c6⟩
/-- What the loops keep: the row of bytes, all else as it was. -/
structure EncI (W : World) (b : Value) (ys : List Int) (wr : World) : Prop where
  row : OwnK wr W.heap.size 5 .u8 b ys
  below : Below W.heap.size W wr
theorem EncI.grow {W : World} {b b' : Value} {ys zs : List Int} {wr wr' : World} (h : EncI W b ys wr) (k : Grew wr W.heap.size b zs b' wr') : EncI W b' zs wr' :=
  ⟨k.row, h.below.trans (k.below (fun g hg => (World.ownsRow.lt h.row g hg).1) h.below.size)⟩
theorem EncI.next {W : World} {b : Value} {ys : List Int} {wr wr' : World} (h : EncI W b ys wr) (k : Below wr.heap.size wr wr') : EncI W b ys wr' := ⟨h.row.nextB k, h.below.trans (k.mono h.below.size)⟩
theorem EncI.gives {w W : World} {b : Value} {ys : List Int} {wr : World} {r : Value} (h0 : Below w.heap.size w W) (h : EncI W b ys wr) (hr : r = .tuple #[b, .int .i64 0]) : GivesB w 0 ys (.returned r) wr := ⟨b, by rw [hr], h.row.base h0.size, h0.trans (h.below.mono h0.size)⟩
theorem givesB_bad {w w' : World} {er : Int} {bs : List Int} (h0 : er ≠ 0) (hb : bs = []) (h : Below w.heap.size w w') : GivesB w er bs (.returned (.tuple #[.slice none 0 0, .int .i64 er])) w' := by
  subst hb; exact ⟨_, rfl, OwnK.nil_ _ _ _ _, h⟩
theorem rgsB_le {rs : List Rg} (h : ∀ (j : Nat) (h : j < rs.length), rs[j].l.length ≤ 64) : ∀ k, k ≤ rs.length → (rgsB ((rs.take k).map rgD)).length ≤ 1024 * k
  | 0, _ => by simp [rgsB]
  | k + 1, hk => by
    rw [rgsB_snoc (by omega), List.length_append, flatK_len ptB_len]
    have h1 := rgsB_le h k (by omega)
    have h2 := h k (by omega)
    omega
theorem flat_take_le {α : Type} {B : α → List Int} {m : Nat} (hB : ∀ x, (B x).length = m) (l : List α) (k : Nat) : ((l.take k).flatMap B).length ≤ m * l.length := by
  rw [flatK_len hB, List.length_take]
  exact Nat.mul_le_mul_left _ (by omega)
theorem RowR.q3 {w : World} {T : Nat → Prop} {A : Option Addr} {l : List Qr} (h : RowR w T 3 qrC A l) {k : Nat} (hk : k < l.length) :
    ∃ b o, A = some ⟨b, o, none⟩ ∧ T b ∧ w.cell? ⟨b, o + k * 3, none⟩ = some (.int .i64 (l[k]).p.x) ∧ w.cell? ⟨b, o + k * 3 + 1, none⟩ = some (.int .i64 (l[k]).p.y) ∧ w.cell? ⟨b, o + k * 3 + 2, none⟩ = some (.int .u64 (l[k]).id) := by
  obtain ⟨b, o, e, hT, hc⟩ := h.at_ hk
  exact ⟨b, o, e, hT, hc 0 _ rfl, hc 1 _ rfl, hc 2 _ rfl⟩
theorem RowR.p2 {w : World} {T : Nat → Prop} {A : Option Addr} {l : List Pt} (h : RowR w T 2 ptC A l) {k : Nat} (hk : k < l.length) :
    ∃ b o, A = some ⟨b, o, none⟩ ∧ T b ∧ w.cell? ⟨b, o + k * 2, none⟩ = some (.int .i64 (l[k]).x) ∧ w.cell? ⟨b, o + k * 2 + 1, none⟩ = some (.int .i64 (l[k]).y) := by
  obtain ⟨b, o, e, hT, hc⟩ := h.at_ hk
  exact ⟨b, o, e, hT, hc 0 _ rfl, hc 1 _ rfl⟩
end Go.Proofs.YthmkllpdkcmccaaGreatDoor
namespace Go.Proofs.YthmkllpdkcmccaaGreatDoor
open Go.RowKit
set_option maxRecDepth 100000
set_option linter.unusedVariables false
set_option linter.unusedSimpArgs false

def ApRel (w : World) (base : Nat) (v : Value) (ys : List Int) (x : Int) (k : Nat) (b t i : Value) (wr : World) : Prop :=
  ∃ j : Nat, i = .int .i64 j ∧ j ≤ k ∧ Grew w base v (ys ++ digs j x) b wr
set_option maxHeartbeats 1000000 in
theorem appNumber_any (base : Nat) (v : Value) (ys : List Int) (x : Int) (k : Nat) (ki : Int) (w : World) (hown : OwnK w base 5 .u8 v ys) (hl : ys.length ≤ 900000) (hbase : base ≤ w.heap.size) (hx : U x) (hk : k ≤ 8) (hki : ki = (k : Nat)) :
    Calls Tryz.prog 83 #[v, .int .u64 x, .int .i64 ki] w fun e w' => ∃ v', e = .returned v' ∧ Grew w base v (ys ++ digs k x) v' w' := by
  subst hki
  go_enter Tryz.func83, Tryz.ntmps83
  go_wp2
  go_loopw [0, 7, 9] (fun b t i wr => ApRel w base v ys x k b t i wr) (fun _ _ i _ => k - (intOf i).toNat)
  case atStart => exact ⟨0, rfl, Nat.zero_le _, by rw [show digs 0 x = [] from rfl, List.append_nil]; exact Grew.refl hown⟩
  case round =>
    obtain ⟨j, rfl, hj, hg⟩ := hrel
    by_cases hgo : j < k
    · have HD := Lib.hid (digs_snoc j x)
      have hdl := digs_len j x
      generalize digs j x = D at hg HD hdl
      have hrow := hg.row
      have hsz := hg.moved.size
      obtain ⟨y, hy⟩ : ∃ y, shr j x = y := ⟨_, rfl⟩
      have hy2 : x / 2 ^ (8 * j) = y := by rw [shr_pow, hy]
      rw [hy] at HD
      have hyU : U y := by rw [← hy]; exact shr_U j hx
      have hy0 := hyU.1
      have hy1 : y ≤ 18446744073709551615 := hyU.2
      have e0 : IntKind.i64.wrap (8 * (j : Int)) = ((8 * j : Nat) : Int) := by rw [wrap_i64' (by omega) (by omega)]; omega
      have em : min (8 * j) 64 = 8 * j := by omega
      have e2 : IntKind.u8.wrap y = y % 256 := by simp [IntKind.wrap, IntKind.signed, IntKind.bits]
      have HX := Lib.hid hx
      have hlen : (ys ++ D).length ≤ 900010 := by rw [List.length_append]; omega
      clear hx hown hdl hy hyU
      obtain ⟨Y, hY⟩ : ∃ Y, Y = ys ++ D := ⟨_, rfl⟩
      rw [← hY] at hg hrow hlen
      have HY := Lib.hid hY
      clear hY
      go_wp2_with (first
        | (at_builtin; refine wp_grow_lit rfl _ _ rfl base _ Y rfl hrow [y % 256] 1 1 rfl rfl (by simp; omega) (by omega) ?_
           intro v2 w2 hg2))
      go_roundw
      case rel => exact ⟨j + 1, by go_num, by omega, by rw [HD.out, ← List.append_assoc, ← HY.out]; exact hg.trans hg2⟩
      case measure => simp [intOf]; omega
    · have hk8 : j = k := by omega
      subst hk8
      go_wp2
      go_ret
      exact ⟨_, rfl, hg⟩
set_option maxHeartbeats 1000000 in
theorem appPoint_any (base : Nat) (v : Value) (ys : List Int) (p : Pt) (w : World) (hown : OwnK w base 5 .u8 v ys) (hl : ys.length ≤ 800000) (hbase : base ≤ w.heap.size) (hp : S p.x ∧ S p.y) :
    Calls Tryz.prog 59 #[v, .agg #[.int .i64 p.x, .int .i64 p.y]] w fun e w' => ∃ v', e = .returned v' ∧ Grew w base v (ys ++ ptB p) v' w' := by
  obtain ⟨W, hW⟩ : ∃ W, W = w.alloc (.cells #[.int .i64 p.x, .int .i64 p.y] 24) := ⟨_, rfl⟩
  obtain ⟨bx, hbx⟩ : ∃ bx, bx = w.heap.size := ⟨_, rfl⟩
  have h0 : Below w.heap.size w W := by rw [hW]; exact (Below.refl _ _).alloc (Nat.le_refl _) _
  have kx0 : W.cell? ⟨bx, 0, none⟩ = some (.int .i64 p.x) := by rw [hW, hbx]; simp [go_sem]
  have kx1 : W.cell? ⟨bx, 1, none⟩ = some (.int .i64 p.y) := by rw [hW, hbx]; simp [go_sem]
  have hnt : ¬ v.ownBlock = some bx := fun e => by have := (World.ownsRow.lt hown bx e).2; omega
  have hownW : OwnK W base 5 .u8 v ys := hown.nextB h0
  have hbW : base ≤ W.heap.size := Nat.le_trans hbase h0.size
  have e1 : IntKind.u64.wrap p.x = toU p.x := by rw [wrap_u]; rfl
  have e2 : IntKind.u64.wrap p.y = toU p.y := by rw [wrap_u]; rfl
  have HW := Lib.hid hW
  have HB := Lib.hid hbx
  clear hW hbx hown
  go_enter Tryz.func59, Tryz.ntmps59
  go_upto_region 1 with (fail)
  rw [← HW.out, ← HB.out]
  refine dirP_plain (by kernel_rfl) (fun b => v.ownBlock = some b) 4 [] 8 [[], [], [(6, 1)], [(7, 2)], [(5, 0), (8, 3)], [], [(10, 5)], [(11, 6)], [(9, 4), (12, 7)], [(13, 8)]] [(5, 0), (6, 1), (7, 2), (8, 3), (9, 4), (10, 5), (11, 6), (12, 7)] [
      (fun z_ => z_ = v),
      (fun z_ => z_ = .pointer (some ⟨bx, 0, none⟩)),
      (fun z_ => z_ = .int .i64 p.x),
      (fun z_ => z_ = .int .u64 (toU p.x)),
      (fun _ => True),
      (fun z_ => z_ = .pointer (some ⟨bx, 1, none⟩)),
      (fun z_ => z_ = .int .i64 p.y),
      (fun z_ => z_ = .int .u64 (toU p.y))
    ] [(fun _ _ => True), (fun _ _ => True), (fun _ _ => True), (fun _ _ => True), (fun _ _ => True), (fun _ _ => True), (fun _ _ => True), (fun _ _ => True)] (fun v' w' => Grew W base v (ys ++ digs 8 (toU p.x)) v' w')
    (by kernel_rfl) (by kernel_rfl) (by kernel_rfl) (by decide) ⟨fun _ _ _ h _ => h, fun _ _ _ h _ => h, fun _ _ _ h _ => h, fun _ _ _ h _ => h, fun _ _ _ h _ => h, fun _ _ _ h _ => h, fun _ _ _ h _ => h, fun _ _ _ h _ => h, trivial⟩ (Grew.dst) ?steps (by decide) ?fin
  case steps =>
    refine ⟨?_, ?_, ?_, ?_, ?_, ?_, ?_, ?_, trivial⟩
    · intro vs g w2 hI hF hR K hK
      simp only [Facts, fill, Act.put, z1, z2, z3, z4, z5, Nat.reduceAdd] at hF hR hK ⊢
      go_simp
      exact hK _ _ _ (hI.step (by decide) (Below.refl _ _)) ⟨rfl, fun _ => Below.refl _ _⟩ ⟨updG_same _ _, rfl, fun _ => trivial, fun e => absurd e (by decide)⟩
    · intro vs g w2 hI hF hR K hK
      simp only [Facts, fill, Act.put, z1, z2, z3, z4, z5, Nat.reduceAdd] at hF hR hK ⊢
      go_simp
      exact hK _ _ _ (hI.step (by decide) (Below.refl _ _)) ⟨rfl, fun _ => Below.refl _ _⟩ ⟨updG_same _ _, rfl, fun _ => trivial, fun e => absurd e (by decide)⟩
    · intro vs g w2 hI hF hR K hK
      simp only [Facts, fill, Act.put, z1, z2, z3, z4, z5, Nat.reduceAdd] at hF hR hK ⊢
      obtain ⟨q1, -⟩ := hR
      have r1 : .pointer (some ⟨bx, 0, none⟩) = vs 1 := Eq.symm q1.val
      generalize vs 1 = x1 at *
      subst r1
      have k0 := (hI.moved.cell (lt_of_cell kx0) hnt).trans kx0
      go_simp
      exact hK _ _ _ (hI.step (by decide) (Below.refl _ _)) ⟨rfl, fun _ => Below.refl _ _⟩ ⟨updG_same _ _, rfl, fun _ => trivial, fun e => absurd e (by decide)⟩
    · intro vs g w2 hI hF hR K hK
      simp only [Facts, fill, Act.put, z1, z2, z3, z4, z5, Nat.reduceAdd] at hF hR hK ⊢
      obtain ⟨q2, -⟩ := hR
      have r2 : .int .i64 p.x = vs 2 := Eq.symm q2.val
      generalize vs 2 = x2 at *
      subst r2
      go_simp
      exact hK _ _ _ (hI.step (by decide) (Below.refl _ _)) ⟨rfl, fun _ => Below.refl _ _⟩ ⟨updG_same _ _, rfl, fun _ => trivial, fun e => absurd e (by decide)⟩
    · intro vs g w2 hI hF hR K hK
      simp only [Facts, fill, Act.put, z1, z2, z3, z4, z5, Nat.reduceAdd] at hF hR hK ⊢
      obtain ⟨q0, q3, -⟩ := hR
      have r0 : v = vs 0 := Eq.symm q0.val
      have r3 : .int .u64 (toU p.x) = vs 3 := Eq.symm q3.val
      generalize vs 0 = x0, vs 3 = x3 at *
      subst r0 r3
      have hB := hI.below hF
      go_simp
      refine (appNumber_any base v ys (toU p.x) 8 _ w2 (hownW.nextB hB) (by omega) (Nat.le_trans hbW hB.size) (toU_U _) (by omega) rfl).mono ?_
      rintro e w3 ⟨v3, rfl, hg3⟩
      have hg := Grew.ahead hB hg3
      exact hK _ _ _ (hI.end_ (fun i hi => by cases hi) hg.moved) ⟨rfl, fun e => absurd rfl e⟩ ⟨updG_same _ _, trivial, fun e => (by rw [updG_same] at e; cases e), fun _ => hg⟩
    · intro vs g w2 hI hF hR K hK
      simp only [Facts, fill, Act.put, z1, z2, z3, z4, z5, Nat.reduceAdd] at hF hR hK ⊢
      go_simp
      exact hK _ _ _ (hI.step (by decide) (Below.refl _ _)) ⟨rfl, fun _ => Below.refl _ _⟩ ⟨updG_same _ _, rfl, fun _ => trivial, fun e => absurd e (by decide)⟩
    · intro vs g w2 hI hF hR K hK
      simp only [Facts, fill, Act.put, z1, z2, z3, z4, z5, Nat.reduceAdd] at hF hR hK ⊢
      obtain ⟨q5, -⟩ := hR
      have r5 : .pointer (some ⟨bx, 1, none⟩) = vs 5 := Eq.symm q5.val
      generalize vs 5 = x5 at *
      subst r5
      have k0 := (hI.moved.cell (lt_of_cell kx1) hnt).trans kx1
      go_simp
      exact hK _ _ _ (hI.step (by decide) (Below.refl _ _)) ⟨rfl, fun _ => Below.refl _ _⟩ ⟨updG_same _ _, rfl, fun _ => trivial, fun e => absurd e (by decide)⟩
    · intro vs g w2 hI hF hR K hK
      simp only [Facts, fill, Act.put, z1, z2, z3, z4, z5, Nat.reduceAdd] at hF hR hK ⊢
      obtain ⟨q6, -⟩ := hR
      have r6 : .int .i64 p.y = vs 6 := Eq.symm q6.val
      generalize vs 6 = x6 at *
      subst r6
      go_simp
      exact hK _ _ _ (hI.step (by decide) (Below.refl _ _)) ⟨rfl, fun _ => Below.refl _ _⟩ ⟨updG_same _ _, rfl, fun _ => trivial, fun e => absurd e (by decide)⟩
  case fin =>
    intro vs w2 hm hpo hR
    have r7 : .int .u64 (toU p.y) = vs 7 := Eq.symm (hR 7 (by decide))
    simp only [fill, Act.put, z1, z2, z3, z4, z5] at ⊢
    clear hR
    generalize vs 7 = x7 at *
    generalize vs 4 = x4 at *
    subst r7
    have hlen : (ys ++ digs 8 (toU p.x)).length ≤ 890000 := by rw [List.length_append, digs_len]; omega
    refine wpOps_step rfl rfl ?_
    go_simp
    refine (appNumber_any base x4 (ys ++ digs 8 (toU p.x)) (toU p.y) 8 _ w2 hpo.row (by omega) (Nat.le_trans hbW hpo.moved.size) (toU_U _) (by omega) rfl).mono ?_
    rintro e w3 ⟨v3, rfl, hg3⟩
    refine wpOps_step rfl rfl ?_
    go_simp
    refine NoPanic.normal ?_
    go_wp2
    have hg := Grew.ahead h0 (hpo.trans hg3)
    rw [List.append_assoc] at hg
    exact bodyPost_ret (v := v3) (by simp [results, Tryz.results59, go_sem]) rfl ⟨v3, rfl, hg⟩
set_option maxHeartbeats 1000000 in
theorem appQuery_any (base : Nat) (v : Value) (ys : List Int) (q : Qr) (w : World) (hown : OwnK w base 5 .u8 v ys) (hl : ys.length ≤ 800000) (hbase : base ≤ w.heap.size) (hq : (S q.p.x ∧ S q.p.y) ∧ U q.id) :
    Calls Tryz.prog 61 #[v, .agg #[.int .i64 q.p.x, .int .i64 q.p.y, .int .u64 q.id]] w fun e w' => ∃ v', e = .returned v' ∧ Grew w base v (ys ++ qrB q) v' w' := by
  obtain ⟨W, hW⟩ : ∃ W, W = w.alloc (.cells #[.int .i64 q.p.x, .int .i64 q.p.y, .int .u64 q.id] 111) := ⟨_, rfl⟩
  obtain ⟨bx, hbx⟩ : ∃ bx, bx = w.heap.size := ⟨_, rfl⟩
  have h0 : Below w.heap.size w W := by rw [hW]; exact (Below.refl _ _).alloc (Nat.le_refl _) _
  have kx0 : W.cell? ⟨bx, 0, none⟩ = some (.int .i64 q.p.x) := by rw [hW, hbx]; simp [go_sem]
  have kx1 : W.cell? ⟨bx, 1, none⟩ = some (.int .i64 q.p.y) := by rw [hW, hbx]; simp [go_sem]
  have kx2 : W.cell? ⟨bx, 2, none⟩ = some (.int .u64 q.id) := by rw [hW, hbx]; simp [go_sem]
  have hnt : ¬ v.ownBlock = some bx := fun e => by have := (World.ownsRow.lt hown bx e).2; omega
  have hownW : OwnK W base 5 .u8 v ys := hown.nextB h0
  have hbW : base ≤ W.heap.size := Nat.le_trans hbase h0.size
  have HW := Lib.hid hW
  have HB := Lib.hid hbx
  clear hW hbx hown
  go_enter Tryz.func61, Tryz.ntmps61
  go_upto_region 1 with (fail)
  rw [← HW.out, ← HB.out]
  refine dirP_plain (by kernel_rfl) (fun b => v.ownBlock = some b) 3 [] 6 [[], [], [(6, 1)], [(5, 0), (7, 2)], [], [(9, 4)], [(8, 3), (10, 5)], [(11, 6)]] [(5, 0), (6, 1), (7, 2), (8, 3), (9, 4), (10, 5)] [
      (fun z_ => z_ = v),
      (fun z_ => z_ = .pointer (some ⟨bx, 0, none⟩)),
      (fun z_ => z_ = .agg #[.int .i64 q.p.x, .int .i64 q.p.y]),
      (fun _ => True),
      (fun z_ => z_ = .pointer (some ⟨bx, 2, none⟩)),
      (fun z_ => z_ = .int .u64 q.id)
    ] [(fun _ _ => True), (fun _ _ => True), (fun _ _ => True), (fun _ _ => True), (fun _ _ => True), (fun _ _ => True)] (fun v' w' => Grew W base v (ys ++ ptB q.p) v' w')
    (by kernel_rfl) (by kernel_rfl) (by kernel_rfl) (by decide) ⟨fun _ _ _ h _ => h, fun _ _ _ h _ => h, fun _ _ _ h _ => h, fun _ _ _ h _ => h, fun _ _ _ h _ => h, fun _ _ _ h _ => h, trivial⟩ (Grew.dst) ?steps (by decide) ?fin
  case steps =>
    refine ⟨?_, ?_, ?_, ?_, ?_, ?_, trivial⟩
    · intro vs g w2 hI hF hR K hK
      simp only [Facts, fill, Act.put, z1, z2, z3, z4, z5, Nat.reduceAdd] at hF hR hK ⊢
      go_simp
      exact hK _ _ _ (hI.step (by decide) (Below.refl _ _)) ⟨rfl, fun _ => Below.refl _ _⟩ ⟨updG_same _ _, rfl, fun _ => trivial, fun e => absurd e (by decide)⟩
    · intro vs g w2 hI hF hR K hK
      simp only [Facts, fill, Act.put, z1, z2, z3, z4, z5, Nat.reduceAdd] at hF hR hK ⊢
      go_simp
      exact hK _ _ _ (hI.step (by decide) (Below.refl _ _)) ⟨rfl, fun _ => Below.refl _ _⟩ ⟨updG_same _ _, rfl, fun _ => trivial, fun e => absurd e (by decide)⟩
    · intro vs g w2 hI hF hR K hK
      simp only [Facts, fill, Act.put, z1, z2, z3, z4, z5, Nat.reduceAdd] at hF hR hK ⊢
      obtain ⟨q1, -⟩ := hR
      have r1 : .pointer (some ⟨bx, 0, none⟩) = vs 1 := Eq.symm q1.val
      generalize vs 1 = x1 at *
      subst r1
      have k0 := (hI.moved.cell (lt_of_cell kx0) hnt).trans kx0
      have k1 := (hI.moved.cell (lt_of_cell kx1) hnt).trans kx1
      go_simp
      exact hK _ _ _ (hI.step (by decide) (Below.refl _ _)) ⟨rfl, fun _ => Below.refl _ _⟩ ⟨updG_same _ _, rfl, fun _ => trivial, fun e => absurd e (by decide)⟩
    · intro vs g w2 hI hF hR K hK
      simp only [Facts, fill, Act.put, z1, z2, z3, z4, z5, Nat.reduceAdd] at hF hR hK ⊢
      obtain ⟨q0, q2, -⟩ := hR
      have r0 : v = vs 0 := Eq.symm q0.val
      have r2 : .agg #[.int .i64 q.p.x, .int .i64 q.p.y] = vs 2 := Eq.symm q2.val
      generalize vs 0 = x0, vs 2 = x2 at *
      subst r0 r2
      have hB := hI.below hF
      go_simp
      refine (appPoint_any base v ys q.p w2 (hownW.nextB hB) (by omega) (Nat.le_trans hbW hB.size) hq.1).mono ?_
      rintro e w3 ⟨v3, rfl, hg3⟩
      have hg := Grew.ahead hB hg3
      exact hK _ _ _ (hI.end_ (fun i hi => by cases hi) hg.moved) ⟨rfl, fun e => absurd rfl e⟩ ⟨updG_same _ _, trivial, fun e => (by rw [updG_same] at e; cases e), fun _ => hg⟩
    · intro vs g w2 hI hF hR K hK
      simp only [Facts, fill, Act.put, z1, z2, z3, z4, z5, Nat.reduceAdd] at hF hR hK ⊢
      go_simp
      exact hK _ _ _ (hI.step (by decide) (Below.refl _ _)) ⟨rfl, fun _ => Below.refl _ _⟩ ⟨updG_same _ _, rfl, fun _ => trivial, fun e => absurd e (by decide)⟩
    · intro vs g w2 hI hF hR K hK
      simp only [Facts, fill, Act.put, z1, z2, z3, z4, z5, Nat.reduceAdd] at hF hR hK ⊢
      obtain ⟨q4, -⟩ := hR
      have r4 : .pointer (some ⟨bx, 2, none⟩) = vs 4 := Eq.symm q4.val
      generalize vs 4 = x4 at *
      subst r4
      have k0 := (hI.moved.cell (lt_of_cell kx2) hnt).trans kx2
      go_simp
      exact hK _ _ _ (hI.step (by decide) (Below.refl _ _)) ⟨rfl, fun _ => Below.refl _ _⟩ ⟨updG_same _ _, rfl, fun _ => trivial, fun e => absurd e (by decide)⟩
  case fin =>
    intro vs w2 hm hpo hR
    have r5 : .int .u64 q.id = vs 5 := Eq.symm (hR 5 (by decide))
    simp only [fill, Act.put, z1, z2, z3, z4, z5] at ⊢
    clear hR
    generalize vs 5 = x5 at *
    generalize vs 3 = x3 at *
    subst r5
    have hlen : (ys ++ ptB q.p).length ≤ 890000 := by rw [List.length_append, ptB_len]; omega
    refine wpOps_step rfl rfl ?_
    go_simp
    refine (appNumber_any base x3 (ys ++ ptB q.p) q.id 8 _ w2 hpo.row (by omega) (Nat.le_trans hbW hpo.moved.size) hq.2 (by omega) rfl).mono ?_
    rintro e w3 ⟨v3, rfl, hg3⟩
    refine wpOps_step rfl rfl ?_
    go_simp
    refine NoPanic.normal ?_
    go_wp2
    have hg := Grew.ahead h0 (hpo.trans hg3)
    rw [List.append_assoc] at hg
    exact bodyPost_ret (v := v3) (by simp [results, Tryz.results61, go_sem]) rfl ⟨v3, rfl, hg⟩
def LpRel (w : World) (base : Nat) (v : Value) (ys : List Int) (l : List Pt) (b i : Value) (wr : World) : Prop :=
  ∃ j : Nat, i = .int .i64 j ∧ j ≤ l.length ∧ Grew w base v (ys ++ (l.take j).flatMap ptB) b wr
set_option maxHeartbeats 1000000 in
theorem appPoints_any (base : Nat) (v : Value) (ys : List Int) (A : Option Addr) (n c : Nat) (l : List Pt) (w : World) (hown : OwnK w base 5 .u8 v ys) (hl : ys.length + 16 * l.length ≤ 700000) (hbase : base ≤ w.heap.size)
    (hrow : RowR w (fun g => g < base) 2 ptC A l) (hn : n = l.length) (hS : SsP l) :
    Calls Tryz.prog 58 #[v, .slice A n c, .func (.func 59) #[] #[]] w fun e w' => ∃ v', e = .returned v' ∧ Grew w base v (ys ++ l.flatMap ptB) v' w' := by
  have HN := Lib.hid hn
  have HO := Lib.hid hown
  have hvb : ∀ g, v.ownBlock = some g → base ≤ g := fun g hg => (World.ownsRow.lt hown g hg).1
  clear hn hown
  go_enter Tryz.func58, Tryz.ntmps58
  go_wp2
  go_loopw [0, 11] (fun b i wr => LpRel w base v ys l b i wr) (fun _ i _ => n - (intOf i).toNat)
  case atStart => exact ⟨0, rfl, Nat.zero_le _, by rw [List.take_zero, List.flatMap_nil, List.append_nil]; exact Grew.refl HO.out⟩
  case round =>
    obtain ⟨j, rfl, hj, hg⟩ := hrel
    have hbw := hg.below hvb hbase
    by_cases hgo : j < l.length
    · obtain ⟨pb, po, rfl, hTq, hcq⟩ := hrow.at_ hgo
      have p0 : w.cell? ⟨pb, po + j * 2, none⟩ = some (.int .i64 (l[j]).x) := hcq 0 _ rfl
      have p1 : w.cell? ⟨pb, po + j * 2 + 1, none⟩ = some (.int .i64 (l[j]).y) := hcq 1 _ rfl
      have HFL := Lib.hid (flat_snoc ptB hgo)
      have HPS := Lib.hid (hS _ (List.getElem_mem hgo))
      have hfl2 := flat_take_le ptB_len l j
      have q0 := (hbw.cell (p := ⟨pb, po + j * 2, none⟩) hTq).trans p0
      have q1 := (hbw.cell (p := ⟨pb, po + j * 2 + 1, none⟩) hTq).trans p1
      clear hcq p0 p1
      generalize l[j] = P at q0 q1 HFL HPS
      have hjr : (j : Int) < n := by have := HN.out; omega
      have hlen : (ys ++ (l.take j).flatMap ptB).length ≤ 700000 := by rw [List.length_append]; omega
      obtain ⟨Y, hY⟩ : ∃ Y, Y = ys ++ (l.take j).flatMap ptB := ⟨_, rfl⟩
      rw [← hY] at hg hlen
      have HY := Lib.hid hY
      have hbs := hg.moved.size
      obtain ⟨W, hW⟩ : ∃ W, W = wr.alloc (.cells #[.int .i64 P.x, .int .i64 P.y] 24) := ⟨_, rfl⟩
      have h0 : Below wr.heap.size wr W := by rw [hW]; exact (Below.refl _ _).alloc (Nat.le_refl _) _
      have k0 : W.cell? ⟨wr.heap.size, 0, none⟩ = some (.int .i64 P.x) := by rw [hW]; simp [go_sem]
      have k1 : W.cell? ⟨wr.heap.size, 1, none⟩ = some (.int .i64 P.y) := by rw [hW]; simp [go_sem]
      have HW := Lib.hid hW
      clear hfl2 hY hW
      go_upto_region 4 with (fail)
      rw [← HW.out]
      go_wp2_with (fail)
      refine (appPoint_any base u0 Y P W (hg.row.nextB h0) (by omega) (Nat.le_trans hbase (Nat.le_trans hbs h0.size)) HPS.out).mono ?_
      rintro e w2 ⟨v2, rfl, hg2⟩
      have hg3 := hg.trans (Grew.ahead h0 hg2)
      go_wp2
      go_roundw
      case rel => exact ⟨j + 1, by go_num, hgo, by rw [HFL.out, ← List.append_assoc, ← HY.out]; exact hg3⟩
      case measure => simp [intOf]; omega
    · have hjk : j = l.length := by omega
      subst hjk
      have hjr : ¬ ((l.length : Nat) : Int) < n := by have := HN.out; omega
      rw [List.take_length] at hg
      obtain ⟨L, hL⟩ : ∃ L, L = l.length := ⟨_, rfl⟩
      rw [← hL] at hjr ⊢
      clear hL
      go_wp2
      go_ret
      exact ⟨_, rfl, hg⟩
def LqRel (w : World) (base : Nat) (v : Value) (ys : List Int) (l : List Qr) (b i : Value) (wr : World) : Prop :=
  ∃ j : Nat, i = .int .i64 j ∧ j ≤ l.length ∧ Grew w base v (ys ++ (l.take j).flatMap qrB) b wr
set_option maxHeartbeats 1000000 in
theorem appQueries_any (base : Nat) (v : Value) (ys : List Int) (A : Option Addr) (n c : Nat) (l : List Qr) (w : World) (hown : OwnK w base 5 .u8 v ys) (hl : ys.length + 24 * l.length ≤ 700000) (hbase : base ≤ w.heap.size)
    (hrow : RowR w (fun g => g < base) 3 qrC A l) (hn : n = l.length) (hS : ∀ q ∈ l, OkQ q) :
    Calls Tryz.prog 60 #[v, .slice A n c, .func (.func 61) #[] #[]] w fun e w' => ∃ v', e = .returned v' ∧ Grew w base v (ys ++ l.flatMap qrB) v' w' := by
  have HN := Lib.hid hn
  have HO := Lib.hid hown
  have hvb : ∀ g, v.ownBlock = some g → base ≤ g := fun g hg => (World.ownsRow.lt hown g hg).1
  clear hn hown
  go_enter Tryz.func60, Tryz.ntmps60
  go_wp2
  go_loopw [0, 11] (fun b i wr => LqRel w base v ys l b i wr) (fun _ i _ => n - (intOf i).toNat)
  case atStart => exact ⟨0, rfl, Nat.zero_le _, by rw [List.take_zero, List.flatMap_nil, List.append_nil]; exact Grew.refl HO.out⟩
  case round =>
    obtain ⟨j, rfl, hj, hg⟩ := hrel
    have hbw := hg.below hvb hbase
    by_cases hgo : j < l.length
    · obtain ⟨pb, po, rfl, hTq, hcq⟩ := hrow.at_ hgo
      have p0 : w.cell? ⟨pb, po + j * 3, none⟩ = some (.int .i64 (l[j]).p.x) := hcq 0 _ rfl
      have p1 : w.cell? ⟨pb, po + j * 3 + 1, none⟩ = some (.int .i64 (l[j]).p.y) := hcq 1 _ rfl
      have p2 : w.cell? ⟨pb, po + j * 3 + 2, none⟩ = some (.int .u64 (l[j]).id) := hcq 2 _ rfl
      have HFL := Lib.hid (flat_snoc qrB hgo)
      have HPS := Lib.hid (hS _ (List.getElem_mem hgo))
      have hfl2 := flat_take_le qrB_len l j
      have q0 := (hbw.cell (p := ⟨pb, po + j * 3, none⟩) hTq).trans p0
      have q1 := (hbw.cell (p := ⟨pb, po + j * 3 + 1, none⟩) hTq).trans p1
      have q2 := (hbw.cell (p := ⟨pb, po + j * 3 + 2, none⟩) hTq).trans p2
      clear hcq p0 p1 p2
      generalize l[j] = P at q0 q1 q2 HFL HPS
      have hjr : (j : Int) < n := by have := HN.out; omega
      have hlen : (ys ++ (l.take j).flatMap qrB).length ≤ 700000 := by rw [List.length_append]; omega
      obtain ⟨Y, hY⟩ : ∃ Y, Y = ys ++ (l.take j).flatMap qrB := ⟨_, rfl⟩
      rw [← hY] at hg hlen
      have HY := Lib.hid hY
      have hbs := hg.moved.size
      obtain ⟨W, hW⟩ : ∃ W, W = wr.alloc (.cells #[.int .i64 P.p.x, .int .i64 P.p.y, .int .u64 P.id] 111) := ⟨_, rfl⟩
      have h0 : Below wr.heap.size wr W := by rw [hW]; exact (Below.refl _ _).alloc (Nat.le_refl _) _
      have k0 : W.cell? ⟨wr.heap.size, 0, none⟩ = some (.int .i64 P.p.x) := by rw [hW]; simp [go_sem]
      have k1 : W.cell? ⟨wr.heap.size, 1, none⟩ = some (.int .i64 P.p.y) := by rw [hW]; simp [go_sem]
      have k2 : W.cell? ⟨wr.heap.size, 2, none⟩ = some (.int .u64 P.id) := by rw [hW]; simp [go_sem]
      have HW := Lib.hid hW
      clear hfl2 hY hW
      go_upto_region 4 with (fail)
      rw [← HW.out]
      go_wp2_with (fail)
      refine (appQuery_any base u0 Y P W (hg.row.nextB h0) (by omega) (Nat.le_trans hbase (Nat.le_trans hbs h0.size)) HPS.out).mono ?_
      rintro e w2 ⟨v2, rfl, hg2⟩
      have hg3 := hg.trans (Grew.ahead h0 hg2)
      go_wp2
      go_roundw
      case rel => exact ⟨j + 1, by go_num, hgo, by rw [HFL.out, ← List.append_assoc, ← HY.out]; exact hg3⟩
      case measure => simp [intOf]; omega
    · have hjk : j = l.length := by omega
      subst hjk
      have hjr : ¬ ((l.length : Nat) : Int) < n := by have := HN.out; omega
      rw [List.take_length] at hg
      obtain ⟨L, hL⟩ : ∃ L, L = l.length := ⟨_, rfl⟩
      rw [← hL] at hjr ⊢
      clear hL
      go_wp2
      go_ret
      exact ⟨_, rfl, hg⟩
end Go.Proofs.YthmkllpdkcmccaaGreatDoor
