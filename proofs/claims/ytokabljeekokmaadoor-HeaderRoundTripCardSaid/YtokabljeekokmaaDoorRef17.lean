/-
  The reference of layer 17: Same, Points, Payload, Response.
-/
import Derived.Test.YtokabljeekokmaaDoorHdr
import Derived.Test.YtokabljeekokmaaDoorSlW
import Derived.Test.YtokabljeekokmaaDoorTail
namespace Go.Proofs.YtokabljeekokmaaDoor
open Go.RowKit Go.Maps
set_option maxRecDepth 100000
set_option linter.unusedVariables false
set_option linter.unusedSimpArgs false

theorem box4 {w W : World} {t : TypeId} {a b c d : Value} (hW : W = w.alloc (.cells #[a, b, c, d] t)) :
    Below w.heap.size w W ∧ W.heap.size = w.heap.size + 1 ∧ W.cell? ⟨w.heap.size, 0, none⟩ = some a ∧ W.cell? ⟨w.heap.size, 1, none⟩ = some b ∧ W.cell? ⟨w.heap.size, 2, none⟩ = some c ∧ W.cell? ⟨w.heap.size, 3, none⟩ = some d := by
  subst hW
  refine ⟨(Below.refl _ _).alloc (Nat.le_refl _) _, by simp, ?_, ?_, ?_, ?_⟩ <;> simp [go_sem]
theorem rgs_at {w : World} {T : Nat → Prop} {A : Option Addr} {rs : List Rg} (h : RowR w T 3 rgC A rs) {k : Nat} (hk : k < rs.length) :
    ∃ b o, A = some ⟨b, o, none⟩ ∧ T b ∧ ∃ (d : Bool) (v : Int) (A2 : Option Addr) (m c : Nat), rs[k].d = d ∧ rs[k].v = v ∧ rs[k].l.length = m ∧
      w.cell? ⟨b, o + k * 3, none⟩ = some (.bool d) ∧ w.cell? ⟨b, o + k * 3 + 1, none⟩ = some (.int .i64 v) ∧ w.cell? ⟨b, o + k * 3 + 2, none⟩ = some (.slice A2 m c) := by
  obtain ⟨b, o, e, hT, c0, c1, c2⟩ := h.rg2 hk
  exact ⟨b, o, e, hT, _, _, _, _, _, rfl, rfl, rfl, c0, c1, c2⟩
theorem ptsK_snoc (a : List (Bool × Int)) (x : Bool × Int) : ptsK (a ++ [x]) = ptsK a + sizeF x.2 := by
  induction a with
  | nil => simp [ptsK]
  | cons y a ih => simp only [List.cons_append, ptsK, ih]; omega
theorem ptsK_bd : ∀ ks : List (Bool × Int), 0 ≤ ptsK ks ∧ ptsK ks ≤ 64 * ks.length
  | [] => ⟨by simp [ptsK], by simp [ptsK]⟩
  | k :: ks => by
    have := ptsK_bd ks
    have := sizeF_bd k.2
    simp only [ptsK, List.length_cons]
    omega
theorem ptsK_take {rs : List Rg} {k : Nat} (h : k < rs.length) : ptsK ((rs.take (k + 1)).map rgK) = ptsK ((rs.take k).map rgK) + sizeF (rs[k]).v := by
  rw [List.take_succ_eq_append_getElem h, List.map_append]; exact ptsK_snoc _ _
def PtRel (W : World) (rs : List Rg) (m i : Value) (wr : World) : Prop := ∃ k : Nat, i = .int .i64 k ∧ k ≤ rs.length ∧ m = .int .i64 (ptsK ((rs.take k).map rgK)) ∧ wr = W
theorem ref17Points_any (op vs pts : Int) (A : Option Addr) (n c : Nat) (rs : List Rg) (r : Int) (T : Nat → Prop) (w : World) (ha : RowR w T 3 rgC A rs) (hn : n = rs.length) (hl : n ≤ 1000000) (hr : ptsK (rs.map rgK) = r) :
    Calls Tryd.prog 38 #[.agg #[.int .i64 op, .int .i64 vs, .slice A n c, .int .i64 pts]] w fun e w' => e = .returned (.int .i64 r) ∧ Below w.heap.size w w' := by
  obtain ⟨W, hW⟩ : ∃ W, W = w.alloc (.cells #[.int .i64 op, .int .i64 vs, .slice A n c, .int .i64 pts] 25) := ⟨_, rfl⟩
  obtain ⟨h0, _, g0, g1, g2, g3⟩ := box4 hW
  obtain ⟨bg, hbg⟩ : ∃ b, b = w.heap.size := ⟨_, rfl⟩
  rw [← hbg] at g0 g1 g2 g3
  have HW := Lib.hid hW
  have Hbg := Lib.hid hbg
  have HN := Lib.hid hn
  have HR := Lib.hid hr
  have ha1 := ha.next h0
  clear hW hbg hn hr ha
  go_enter Tryd.func38, Tryd.ntmps38
  go_upto_region 1 with (fail)
  rw [← HW.out, ← Hbg.out]
  go_wp2
  go_loopw [3, 4] (fun m i wr => PtRel W rs m i wr) (fun _ i _ => n - (intOf i).toNat)
  case atStart => exact ⟨0, rfl, Nat.zero_le _, rfl, rfl⟩
  case round =>
    obtain ⟨k, rfl, hk, rfl, rfl⟩ := hrel
    rw [← HN.out] at hk
    by_cases hgo : k < n
    · have hgo2 : k < rs.length := by rw [← HN.out]; exact hgo
      have HP := Lib.hid (ptsK_take hgo2)
      have hbd := ptsK_bd ((rs.take k).map rgK)
      have hbl : ((rs.take k).map rgK).length ≤ 1000000 := by simp; omega
      obtain ⟨b, o, rfl, _, d, v, A2, m2, c2, hd, hv, hm, k0, k1, k2⟩ := rgs_at ha1 hgo2
      obtain ⟨s, hs⟩ : ∃ s, sizeF v = s := ⟨_, rfl⟩
      have hsb := sizeF_bd v
      rw [hs] at hsb
      rw [hv, hs] at HP
      obtain ⟨x, hx⟩ : ∃ x, x = ptsK ((rs.take k).map rgK) := ⟨_, rfl⟩
      rw [← hx] at hbd HP
      simp only [← hx]
      have HS := Lib.hid hs
      clear hs hd hv hm ha1 hx
      go_wp2_with (fail)
      refine (ref16Size_any v s _ HS.out).mono ?_
      rintro e w2 ⟨rfl, hw2⟩
      obtain rfl := hw2.symm
      go_wp2
      go_roundw
      case rel => exact ⟨k + 1, by go_num, by rw [← HN.out]; omega, by rw [HP.out], rfl⟩
      case measure => simp [intOf]; omega
    · have HE := Lib.hid (show ptsK ((rs.take k).map rgK) = r by rw [← HR.out, List.take_of_length_le (by rw [← HN.out]; omega)])
      clear ha1
      go_wp2
      go_ret
      exact ⟨by rw [HE.out]; rfl, h0⟩
/-- Same, of headers that read the same. -/
def SmRel (W : World) (i : Value) (wr : World) : Prop := ∃ k q : Nat, i = .int .i64 k ∧ wr = W.drewN q
theorem ref17Same_yes (op vs pts : Int) (A B : Option Addr) (n c d : Nat) (rs rs2 : List Rg) (T U : Nat → Prop) (w : World) (ha : RowR w T 3 rgC A rs) (hb : RowR w U 3 rgC B rs2) (hn : n = rs.length) (hm : n = rs2.length) (hl : n ≤ 1000000)
    (hq : ∀ k (h1 : k < rs.length) (h2 : k < rs2.length), rs[k].d = rs2[k].d ∧ rs[k].v = rs2[k].v ∧ rs[k].l.length = rs2[k].l.length) :
    Calls Tryd.prog 13 #[.agg #[.int .i64 op, .int .i64 vs, .slice A n c, .int .i64 pts], .agg #[.int .i64 op, .int .i64 vs, .slice B n d, .int .i64 pts]] w fun e w' => e = .returned (.bool true) ∧ Below w.heap.size w w' := by
  obtain ⟨W1, hW1⟩ : ∃ W, W = w.alloc (.cells #[.int .i64 op, .int .i64 vs, .slice A n c, .int .i64 pts] 25) := ⟨_, rfl⟩
  obtain ⟨h1, hs1, g0, g1, g2, g3⟩ := box4 hW1
  obtain ⟨W, hW⟩ : ∃ W, W = W1.alloc (.cells #[.int .i64 op, .int .i64 vs, .slice B n d, .int .i64 pts] 25) := ⟨_, rfl⟩
  obtain ⟨h2, hs2, e0, e1, e2, e3⟩ := box4 hW
  have h0 := h1.trans (h2.mono h1.size)
  replace g0 := (h2.cell (lt_of_cell g0)).trans g0
  replace g1 := (h2.cell (lt_of_cell g1)).trans g1
  replace g2 := (h2.cell (lt_of_cell g2)).trans g2
  replace g3 := (h2.cell (lt_of_cell g3)).trans g3
  rw [hs1] at e0 e1 e2 e3
  obtain ⟨bg, hbg⟩ : ∃ b, b = w.heap.size := ⟨_, rfl⟩
  obtain ⟨bh, hbh⟩ : ∃ b, b = w.heap.size + 1 := ⟨_, rfl⟩
  rw [← hbg] at g0 g1 g2 g3
  rw [← hbh] at e0 e1 e2 e3
  have HW := Lib.hid hW
  have HW1 := Lib.hid hW1
  have Hbg := Lib.hid hbg
  have Hbh := Lib.hid hbh
  have HN := Lib.hid hn
  have HM := Lib.hid hm
  have HQ := Lib.hid hq
  have ha1 := ha.next h0
  have hb1 := hb.next h0
  clear hW hW1 hbg hbh hn hm hq ha hb hs1 hs2 h1 h2
  go_enter Tryd.func13, Tryd.ntmps13
  go_upto_region 1 with (fail)
  rw [← HW1.out, ← HW.out, ← Hbh.out, ← Hbg.out]
  go_wp2
  go_loopw [5] (fun i wr => SmRel W i wr) (fun i _ => n - (intOf i).toNat)
  case atStart => exact ⟨0, 0, rfl, rfl⟩
  case round =>
    obtain ⟨k, q, rfl, rfl⟩ := hrel
    by_cases hgo : k < n
    · have hgo2 : k < rs.length := by rw [← HN.out]; exact hgo
      have hgo3 : k < rs2.length := by rw [← HM.out]; exact hgo
      obtain ⟨q1, q2, q3⟩ := HQ.out k hgo2 hgo3
      obtain ⟨b, o, rfl, _, d1, v1, A1, m1, c1, hd, hv, hm, k0, k1, k2⟩ := rgs_at ha1 hgo2
      obtain ⟨b', o', rfl, _, d2, v2, A2, m2, c2, hd', hv', hm', j0, j1, j2⟩ := rgs_at hb1 hgo3
      obtain rfl : d2 = d1 := by rw [← hd', ← q1, hd]
      obtain rfl : v2 = v1 := by rw [← hv', ← q2, hv]
      obtain rfl : m2 = m1 := by rw [← hm', ← q3, hm]
      clear q1 q2 q3 hd hv hm hd' hv' hm' ha1 hb1
      cases d2
      all_goals
        go_wp2
        go_quiet (fail)
        go_wp2
        go_roundw
        case rel => exact ⟨k + 1, _, by go_num, rfl⟩
        case measure => simp [intOf]; omega
    · clear ha1 hb1
      go_wp2
      go_ret
      exact ⟨rfl, below_drewN' h0 q⟩
theorem ref17Response_any (op vs pts : Int) (A : Option Addr) (n c : Nat) (ks : List (Bool × Int)) (r : Int) (w : World) (hk : Okh ⟨op, vs, ks, pts⟩) (hr : rspL ⟨op, vs, ks, pts⟩ = r) :
    Calls Tryd.prog 21 #[.agg #[.int .i64 op, .int .i64 vs, .slice A n c, .int .i64 pts]] w fun e w' => e = .returned (.int .i64 r) ∧ Below w.heap.size w w' := by
  obtain ⟨W, hW⟩ : ∃ W, W = w.alloc (.cells #[.int .i64 op, .int .i64 vs, .slice A n c, .int .i64 pts] 25) := ⟨_, rfl⟩
  obtain ⟨h0, _, g0, g1, g2, g3⟩ := box4 hW
  obtain ⟨bg, hbg⟩ : ∃ b, b = w.heap.size := ⟨_, rfl⟩
  rw [← hbg] at g0 g1 g2 g3
  have HW := Lib.hid hW
  have Hbg := Lib.hid hbg
  by_cases h5 : op = 5
  · have hp := hk.pts5 h5
    simp only at hp
    have HR := Lib.hid (show r = 4 + 9 * pts by rw [← hr]; unfold rspL; rw [if_pos h5])
    subst h5
    clear hW hbg hr hk
    go_enter Tryd.func21, Tryd.ntmps21
    go_upto_region 1 with (fail)
    rw [← HW.out, ← Hbg.out]
    go_wp2
    go_ret
    exact ⟨by rw [HR.out]; rfl, h0⟩
  · have HR := Lib.hid (show r = 2 by rw [← hr]; unfold rspL; rw [if_neg h5])
    have d5 : (op == 5) = false := by rw [beq_eq_false_iff_ne]; exact h5
    clear hW hbg hr hk
    go_enter Tryd.func21, Tryd.ntmps21
    go_upto_region 1 with (fail)
    rw [← HW.out, ← Hbg.out]
    go_wp2
    go_ret
    exact ⟨by rw [HR.out]; rfl, h0⟩
set_option maxHeartbeats 1000000 in
theorem ref17Payload_any (op vx pts : Int) (A : Option Addr) (n c : Nat) (rs : List Rg) (r : Int) (T : Nat → Prop) (w : World) (ha : RowR w T 3 rgC A rs) (hn : n = rs.length) (hk : Okh ⟨op, vx, rs.map rgK, pts⟩) (hr : payL ⟨op, vx, rs.map rgK, pts⟩ = r) :
    Calls Tryd.prog 20 #[.agg #[.int .i64 op, .int .i64 vx, .slice A n c, .int .i64 pts]] w fun e w' => e = .returned (.int .i64 r) ∧ Below w.heap.size w w' := by
  obtain ⟨W, hW⟩ : ∃ W, W = w.alloc (.cells #[.int .i64 op, .int .i64 vx, .slice A n c, .int .i64 pts] 25) := ⟨_, rfl⟩
  obtain ⟨h0, _, g0, g1, g2, g3⟩ := box4 hW
  obtain ⟨bg, hbg⟩ : ∃ b, b = w.heap.size := ⟨_, rfl⟩
  rw [← hbg] at g0 g1 g2 g3
  have HW := Lib.hid hW
  have Hbg := Lib.hid hbg
  have ha1 := ha.next h0
  have HN := Lib.hid hn
  have hn1 : 4 ≤ op → n ≤ 64 := fun h => by have := (hk.len h).2; simp only [List.length_map] at this; omega
  have hxb : 4 ≤ op → ptsK (rs.map rgK) ≤ 4096 := fun h => by have := hn1 h; have := (ptsK_bd (rs.map rgK)).2; rw [List.length_map] at this; omega
  have hx0 := (ptsK_bd (rs.map rgK)).1
  clear hn
  have hop := hk.op
  simp only at hop
  unfold payL at hr
  simp only at hr
  by_cases h1 : op = 1
  · rw [if_pos h1] at hr
    have HR := Lib.hid hr
    subst h1
    clear hW hbg hr hk hxb hn1 hx0
    go_enter Tryd.func20, Tryd.ntmps20
    go_upto_region 1 with (fail)
    rw [← HW.out, ← Hbg.out]
    go_wp2
    go_ret
    exact ⟨by rw [HR.out]; rfl, h0⟩
  rw [if_neg h1] at hr
  have d1 : (op == 1) = false := by rw [beq_eq_false_iff_ne]; exact h1
  by_cases h2 : op = 2
  · rw [if_pos h2] at hr
    have HR := Lib.hid hr
    subst h2
    clear hW hbg hr hk hxb hn1 hx0
    go_enter Tryd.func20, Tryd.ntmps20
    go_upto_region 1 with (fail)
    rw [← HW.out, ← Hbg.out]
    go_wp2
    go_ret
    exact ⟨by rw [HR.out]; rfl, h0⟩
  rw [if_neg h2] at hr
  have d2 : (op == 2) = false := by rw [beq_eq_false_iff_ne]; exact h2
  by_cases h3 : op = 3
  · rw [if_pos h3] at hr
    have hv := hk.vs3 h3
    simp only at hv
    have HR := Lib.hid hr
    subst h3
    clear hW hbg hr hk hxb hn1 hx0
    go_enter Tryd.func20, Tryd.ntmps20
    go_upto_region 1 with (fail)
    rw [← HW.out, ← Hbg.out]
    go_wp2
    go_ret
    exact ⟨by rw [← HR.out]; rfl, h0⟩
  rw [if_neg h3] at hr
  have d3 : (op == 3) = false := by rw [beq_eq_false_iff_ne]; exact h3
  obtain ⟨x, hx⟩ : ∃ x, ptsK (rs.map rgK) = x := ⟨_, rfl⟩
  rw [hx] at hx0 hxb hr
  have HX := Lib.hid hx
  have hx1 : x ≤ 4096 := hxb (by omega)
  have hn2 : n ≤ 64 := hn1 (by omega)
  clear hxb hn1
  by_cases h4 : op = 4
  · rw [if_pos h4] at hr
    have HR := Lib.hid hr
    subst h4
    clear hW hbg hr hk hx d1 d2 d3
    go_enter Tryd.func20, Tryd.ntmps20
    go_upto_region 1 with (fail)
    rw [← HW.out, ← Hbg.out]
    go_wp2_with (fail)
    refine (ref17Points_any 4 vx pts A n c rs x T _ ha1 HN.out (by omega) HX.out).mono ?_
    rintro e w2 ⟨rfl, hb2⟩
    go_wp2
    go_ret
    exact ⟨by rw [← HR.out]; rfl, h0.trans (hb2.mono h0.size)⟩
  · rw [if_neg h4] at hr
    have hp := hk.pts5 (by show op = 5; omega)
    simp only at hp
    have HR := Lib.hid hr
    obtain rfl : op = 5 := by omega
    clear hW hbg hr hk hx d1 d2 d3
    go_enter Tryd.func20, Tryd.ntmps20
    go_upto_region 1 with (fail)
    rw [← HW.out, ← Hbg.out]
    go_upto_region 10 with (fail)
    refine dir_plain (by kernel_rfl) 8 [[], [(21, 0)], [(22, 1)], [], [(24, 3)], [(25, 4)], [(23, 2), (26, 5)], [(27, 6)]] [(21, 0), (22, 1), (23, 2), (24, 3), (25, 4), (26, 5), (27, 6), (2, 7)] [
        (fun v _ => v = .agg #[.int .i64 5, .int .i64 vx, .slice A n c, .int .i64 pts]),
        (fun v _ => v = .int .i64 x),
        (fun v _ => v = .int .i64 (16 * x)),
        (fun v _ => v = .pointer (some ⟨bg, 3, none⟩)),
        (fun v _ => v = .int .i64 pts),
        (fun v _ => v = .int .i64 (24 * pts)),
        (fun v _ => v = .int .i64 (16 * x + 24 * pts)),
        (fun v _ => v = .int .i64 (16 * x + 24 * pts))
      ] (by kernel_rfl) (by kernel_rfl) (by kernel_rfl) (by decide) ⟨dstab_eq, dstab_eq, dstab_eq, dstab_eq, dstab_eq, dstab_eq, dstab_eq, dstab_eq, trivial⟩ ?steps ?fin
    case steps =>
      refine ⟨?_, ?_, ?_, ?_, ?_, ?_, ?_, ?_, trivial⟩
      · intro vs g w2 hI hF hR K hK
        simp only [Facts, fill, Act.put, z1, z2, z3, z4, z5, Nat.reduceAdd] at hF hR hK ⊢
        have k0 := (hI.cell (lt_of_cell g0)).trans g0
        have k1 := (hI.cell (lt_of_cell g1)).trans g1
        have k2 := (hI.cell (lt_of_cell g2)).trans g2
        have k3 := (hI.cell (lt_of_cell g3)).trans g3
        go_simp
        exact hK _ () _ hI (Below.refl _ _) rfl
      · intro vs g w2 hI hF hR K hK
        simp only [Facts, fill, Act.put, z1, z2, z3, z4, z5, Nat.reduceAdd] at hF hR hK ⊢
        obtain ⟨r0, -⟩ := hR
        generalize vs 0 = x0 at *
        subst r0
        go_simp
        refine (ref17Points_any 5 vx pts A n c rs x T _ (ha1.next hI) HN.out (by omega) HX.out).mono ?_
        rintro e w3 ⟨rfl, hb⟩
        exact hK _ () _ (hI.trans (hb.mono hI.size)) hb rfl
      · intro vs g w2 hI hF hR K hK
        simp only [Facts, fill, Act.put, z1, z2, z3, z4, z5, Nat.reduceAdd] at hF hR hK ⊢
        obtain ⟨r1, -⟩ := hR
        generalize vs 1 = x1 at *
        subst r1
        go_simp
        rw [wrap_i64' (by omega) (by omega)]
        exact hK _ () _ hI (Below.refl _ _) rfl
      · intro vs g w2 hI hF hR K hK
        simp only [Facts, fill, Act.put, z1, z2, z3, z4, z5, Nat.reduceAdd] at hF hR hK ⊢
        go_simp
        exact hK _ () _ hI (Below.refl _ _) rfl
      · intro vs g w2 hI hF hR K hK
        simp only [Facts, fill, Act.put, z1, z2, z3, z4, z5, Nat.reduceAdd] at hF hR hK ⊢
        obtain ⟨r3, -⟩ := hR
        generalize vs 3 = x3 at *
        subst r3
        have k0 := (hI.cell (lt_of_cell g3)).trans g3
        go_simp
        exact hK _ () _ hI (Below.refl _ _) rfl
      · intro vs g w2 hI hF hR K hK
        simp only [Facts, fill, Act.put, z1, z2, z3, z4, z5, Nat.reduceAdd] at hF hR hK ⊢
        obtain ⟨r4, -⟩ := hR
        generalize vs 4 = x4 at *
        subst r4
        go_simp
        rw [wrap_i64' (by omega) (by omega)]
        exact hK _ () _ hI (Below.refl _ _) rfl
      · intro vs g w2 hI hF hR K hK
        simp only [Facts, fill, Act.put, z1, z2, z3, z4, z5, Nat.reduceAdd] at hF hR hK ⊢
        obtain ⟨r2, r5, -⟩ := hR
        generalize vs 2 = x2, vs 5 = x5 at *
        subst r2 r5
        go_simp
        rw [wrap_i64' (by omega) (by omega)]
        exact hK _ () _ hI (Below.refl _ _) rfl
      · intro vs g w2 hI hF hR K hK
        simp only [Facts, fill, Act.put, z1, z2, z3, z4, z5, Nat.reduceAdd] at hF hR hK ⊢
        obtain ⟨r6, -⟩ := hR
        generalize vs 6 = x6 at *
        subst r6
        go_simp
        exact hK _ () _ hI (Below.refl _ _) rfl
    case fin =>
      intro vs w2 hI hR
      have r7 := hR 7 (by decide)
      simp only [fill, Act.put, z1, z2, z3, z4, z5] at r7 ⊢
      clear hR
      generalize vs 7 = x7 at *
      subst r7
      refine NoPanic.normal ?_
      go_wp2
      go_ret
      exact ⟨by rw [← HR.out]; rfl, h0.trans (hI.mono h0.size)⟩
end Go.Proofs.YtokabljeekokmaaDoor
