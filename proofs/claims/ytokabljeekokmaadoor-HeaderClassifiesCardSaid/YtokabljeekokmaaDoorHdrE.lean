/-
  The contracts of package header over the landed code: Format. (Written by hdr17.py.)
-/
import Derived.Test.YtokabljeekokmaaDoorHdrB
import Derived.Test.YtokabljeekokmaaDoorBy
import Derived.Test.YtokabljeekokmaaDoorRef17c
namespace Go.Proofs.YtokabljeekokmaaDoor
open Go.RowKit Go.Maps
set_option maxRecDepth 100000
set_option linter.unusedVariables false
set_option linter.unusedSimpArgs false

theorem own_nextH {w w' : World} {base : Nat} {e : TypeId} {k : IntKind} {v : Value} {os : List Int} (h : OwnK w base e k v os) (hb : Below w.heap.size w w') : OwnK w' base e k v os := h.keep_ fun g hg => hb.block g (h.lt_ g hg).2
theorem byteOf_h (d : Bool) (v : Int) (sl : Value) (r : Int) (w : World) (hv : 0 ≤ v ∧ v ≤ 64) (hr : rgB (d, v) = r) :
    Calls Tryd.prog 36 #[.agg #[.bool d, .int .i64 v, sl]] w fun e w' => e = .returned (.int .u8 r) ∧ Below w.heap.size w w' := by
  have h0 : Below w.heap.size w (w.alloc (.cells #[.bool d, .int .i64 v, sl] 52)) := (Below.refl _ _).alloc (Nat.le_refl _) _
  have HR := Lib.hid hr
  clear hr
  cases d
  · have HX := Lib.hid (show r = v by rw [← HR.out]; rfl)
    go_enter Tryd.func36, Tryd.ntmps36
    go_wp2
    go_ret
    exact ⟨by rw [HX.out]; rfl, h0⟩
  · have HX := Lib.hid (show r = v + 128 by rw [← HR.out]; rfl)
    go_enter Tryd.func36, Tryd.ntmps36
    go_wp2
    go_ret
    exact ⟨by rw [HX.out]; rfl, h0⟩
def FRelH (w : World) (rs : List Rg) (pre : List Int) (b i : Value) (wr : World) : Prop :=
  ∃ k : Nat, i = .int .i64 k ∧ k ≤ rs.length ∧ OwnK wr w.heap.size 5 .u8 b (pre ++ ((rs.take k).map rgK).map rgB) ∧ Below w.heap.size w wr
set_option maxHeartbeats 4000000 in
theorem hdrFormat_c (op vs pts : Int) (A : Option Addr) (n c : Nat) (rs : List Rg) (er : Int) (bs : List Int) (w : World) (hw : Wts w) (ha : RowR w (fun g => g < w.heap.size) 3 rgC A rs) (hn : n = rs.length) (hl : n ≤ 1000000) (hS : S op ∧ S vs ∧ S pts) (hv : ∀ r ∈ rs, S r.v) (he : formErr ⟨op, vs, rs.map rgK, pts⟩ (rgP rs) = er) (hb : (if er = 0 then formB ⟨op, vs, rs.map rgK, pts⟩ else []) = bs) :
    Calls Tryd.prog 15 #[.agg #[.int .i64 op, .int .i64 vs, .slice A n c, .int .i64 pts]] w (GivesB w er bs) := by
  replace hl : n ≤ 9223372036854775807 := by omega
  obtain ⟨W0, hW0⟩ : ∃ W, W = w.alloc (.cells #[.int .i64 op, .int .i64 vs, .slice A n c, .int .i64 pts] 25) := ⟨_, rfl⟩
  obtain ⟨q0, _, g0, g1, g2, g3⟩ := box4 hW0
  obtain ⟨bg, hbg⟩ : ∃ b, b = w.heap.size := ⟨_, rfl⟩
  rw [← hbg] at g0 g1 g2 g3
  have HW0 := Lib.hid hW0
  have Hbg := Lib.hid hbg
  have HN := Lib.hid hn
  have ha0 := ha.next q0
  have HE0 := Lib.hid he
  have HB := Lib.hid hb
  clear hW0 hbg hb hn ha he hw
  go_enter Tryd.func15, Tryd.ntmps15
  go_upto_region 1 with (fail)
  rw [← HW0.out, ← Hbg.out]
  go_wp2_with (fail)
  refine (check_h op vs pts A n c rs er _ _ ha0 hv HN.out hl HE0.out).mono ?_
  rintro e w1 ⟨rfl, h1⟩
  have k0 := (h1.cell (p := ⟨bg, 0, none⟩) (lt_of_cell g0)).trans g0
  have k1 := (h1.cell (p := ⟨bg, 1, none⟩) (lt_of_cell g1)).trans g1
  have k2 := (h1.cell (p := ⟨bg, 2, none⟩) (lt_of_cell g2)).trans g2
  have k3 := (h1.cell (p := ⟨bg, 3, none⟩) (lt_of_cell g3)).trans g3
  have q1 := q0.trans (h1.mono q0.size)
  have ha1 := ha0.next h1
  clear g0 g1 g2 g3 ha0
  by_cases e0 : er = 0
  · subst e0
    obtain ⟨hk, _⟩ := formErr_ok.1 HE0.out
    have hop := hk.op
    simp only at hop
    have HK := Lib.hid hk
    have hop2 : op = 1 ∨ op = 2 ∨ op = 3 ∨ op = 4 ∨ op = 5 := by omega
    clear hk
    rcases hop2 with rfl | rfl | rfl | rfl | rfl
    · have hrs : rs = [] := by have := HK.out.len0 (show (1 : Int) < 4 by decide); simpa using this
      obtain rfl := hrs
      obtain rfl : n = 0 := HN.out
      obtain rfl : vs = 0 := HK.out.vs0 (show ¬ ((1 : Int) = 3) by decide)
      obtain rfl : pts = 0 := HK.out.pts0 (show ¬ ((1 : Int) = 5) by decide)
      have HBS := Lib.hid (show [1] = bs by rw [← HB.out, if_pos rfl]; unfold formB; rfl)
      go_upto_region 5 with (fail)
      obtain ⟨W1, hW1⟩ : ∃ W1, W1 = w1.alloc (.cells #[.int .u8 1] 5) := ⟨_, rfl⟩
      have p1 : Below w1.heap.size w1 W1 := by rw [hW1]; exact (Below.refl _ _).alloc (Nat.le_refl _) _
      obtain ⟨v1, hv1⟩ : ∃ v, v = Value.slice (some ⟨w1.heap.size, 0, none⟩) 1 1 := ⟨_, rfl⟩
      have own1 : OwnK W1 w1.heap.size 5 .u8 v1 [1] := by rw [hW1, hv1]; exact own_lit _ (by decide) _ (Nat.le_refl _)
      rw [← hW1, ← hv1]
      clear hW1 hv1
      have m0 := (p1.cell (p := ⟨bg, 0, none⟩) (lt_of_cell k0)).trans k0
      have m1 := (p1.cell (p := ⟨bg, 1, none⟩) (lt_of_cell k1)).trans k1
      have m2 := (p1.cell (p := ⟨bg, 2, none⟩) (lt_of_cell k2)).trans k2
      have m3 := (p1.cell (p := ⟨bg, 3, none⟩) (lt_of_cell k3)).trans k3
      go_wp2_with (fail)
      refine (usesV_h 1 false _ rfl).mono ?_
      rintro e w2_ ⟨rfl, hw2_⟩
      obtain rfl := hw2_.symm
      clear hw2_
      go_wp2_with (fail)
      refine (usesR_h 1 false _ rfl).mono ?_
      rintro e w2_ ⟨rfl, hw2_⟩
      obtain rfl := hw2_.symm
      clear hw2_
      go_wp2
      go_loopw [5, 39] (fun b i wr => FRelH w1 ([] : List Rg) [1] b i wr) (fun _ i _ => 0 - (intOf i).toNat)
      case atStart => exact ⟨0, rfl, Nat.zero_le _, by simpa using own1, p1⟩
      case round =>
        obtain ⟨j, rfl, hj, hown, hbr⟩ := hrel
        rw [← HN.out] at hj
        have HO := Lib.hid hown
        clear hown m0 m1 m2 m3 own1 p1
        have m0 := (hbr.cell (p := ⟨bg, 0, none⟩) (lt_of_cell k0)).trans k0
        have m1 := (hbr.cell (p := ⟨bg, 1, none⟩) (lt_of_cell k1)).trans k1
        have m2 := (hbr.cell (p := ⟨bg, 2, none⟩) (lt_of_cell k2)).trans k2
        have m3 := (hbr.cell (p := ⟨bg, 3, none⟩) (lt_of_cell k3)).trans k3
        clear k0 k1 k2 k3
        have hgo : ¬ j < 0 := by omega
        have HO2 := Lib.hid (show OwnK wr w1.heap.size 5 .u8 u5 [1] from by have := HO.out; simpa using this)
        clear ha1 HO
        go_wp2_with (fail)
        refine (usesP_h 1 false _ rfl).mono ?_
        rintro e w2_ ⟨rfl, hw2_⟩
        obtain rfl := hw2_.symm
        clear hw2_
        go_wp2
        go_ret2
        exact ⟨_, rfl, by rw [← HBS.out]; exact HO2.out.base q1.size, q1.trans (hbr.mono q1.size)⟩
    · have hrs : rs = [] := by have := HK.out.len0 (show (2 : Int) < 4 by decide); simpa using this
      obtain rfl := hrs
      obtain rfl : n = 0 := HN.out
      obtain rfl : vs = 0 := HK.out.vs0 (show ¬ ((2 : Int) = 3) by decide)
      obtain rfl : pts = 0 := HK.out.pts0 (show ¬ ((2 : Int) = 5) by decide)
      have HBS := Lib.hid (show [2] = bs by rw [← HB.out, if_pos rfl]; unfold formB; rfl)
      go_upto_region 5 with (fail)
      obtain ⟨W1, hW1⟩ : ∃ W1, W1 = w1.alloc (.cells #[.int .u8 2] 5) := ⟨_, rfl⟩
      have p1 : Below w1.heap.size w1 W1 := by rw [hW1]; exact (Below.refl _ _).alloc (Nat.le_refl _) _
      obtain ⟨v1, hv1⟩ : ∃ v, v = Value.slice (some ⟨w1.heap.size, 0, none⟩) 1 1 := ⟨_, rfl⟩
      have own1 : OwnK W1 w1.heap.size 5 .u8 v1 [2] := by rw [hW1, hv1]; exact own_lit _ (by decide) _ (Nat.le_refl _)
      rw [← hW1, ← hv1]
      clear hW1 hv1
      have m0 := (p1.cell (p := ⟨bg, 0, none⟩) (lt_of_cell k0)).trans k0
      have m1 := (p1.cell (p := ⟨bg, 1, none⟩) (lt_of_cell k1)).trans k1
      have m2 := (p1.cell (p := ⟨bg, 2, none⟩) (lt_of_cell k2)).trans k2
      have m3 := (p1.cell (p := ⟨bg, 3, none⟩) (lt_of_cell k3)).trans k3
      go_wp2_with (fail)
      refine (usesV_h 2 false _ rfl).mono ?_
      rintro e w2_ ⟨rfl, hw2_⟩
      obtain rfl := hw2_.symm
      clear hw2_
      go_wp2_with (fail)
      refine (usesR_h 2 false _ rfl).mono ?_
      rintro e w2_ ⟨rfl, hw2_⟩
      obtain rfl := hw2_.symm
      clear hw2_
      go_wp2
      go_loopw [5, 39] (fun b i wr => FRelH w1 ([] : List Rg) [2] b i wr) (fun _ i _ => 0 - (intOf i).toNat)
      case atStart => exact ⟨0, rfl, Nat.zero_le _, by simpa using own1, p1⟩
      case round =>
        obtain ⟨j, rfl, hj, hown, hbr⟩ := hrel
        rw [← HN.out] at hj
        have HO := Lib.hid hown
        clear hown m0 m1 m2 m3 own1 p1
        have m0 := (hbr.cell (p := ⟨bg, 0, none⟩) (lt_of_cell k0)).trans k0
        have m1 := (hbr.cell (p := ⟨bg, 1, none⟩) (lt_of_cell k1)).trans k1
        have m2 := (hbr.cell (p := ⟨bg, 2, none⟩) (lt_of_cell k2)).trans k2
        have m3 := (hbr.cell (p := ⟨bg, 3, none⟩) (lt_of_cell k3)).trans k3
        clear k0 k1 k2 k3
        have hgo : ¬ j < 0 := by omega
        have HO2 := Lib.hid (show OwnK wr w1.heap.size 5 .u8 u5 [2] from by have := HO.out; simpa using this)
        clear ha1 HO
        go_wp2_with (fail)
        refine (usesP_h 2 false _ rfl).mono ?_
        rintro e w2_ ⟨rfl, hw2_⟩
        obtain rfl := hw2_.symm
        clear hw2_
        go_wp2
        go_ret2
        exact ⟨_, rfl, by rw [← HBS.out]; exact HO2.out.base q1.size, q1.trans (hbr.mono q1.size)⟩
    · have hrs : rs = [] := by have := HK.out.len0 (show (3 : Int) < 4 by decide); simpa using this
      obtain rfl := hrs
      obtain rfl : n = 0 := HN.out
      have hv3 := HK.out.vs3 rfl
      simp only at hv3
      obtain rfl : pts = 0 := HK.out.pts0 (show ¬ ((3 : Int) = 5) by decide)
      have HBS := Lib.hid (show [3, vs] = bs by rw [← HB.out, if_pos rfl]; unfold formB; rfl)
      go_upto_region 5 with (fail)
      obtain ⟨W1, hW1⟩ : ∃ W1, W1 = w1.alloc (.cells #[.int .u8 3] 5) := ⟨_, rfl⟩
      have p1 : Below w1.heap.size w1 W1 := by rw [hW1]; exact (Below.refl _ _).alloc (Nat.le_refl _) _
      obtain ⟨v1, hv1⟩ : ∃ v, v = Value.slice (some ⟨w1.heap.size, 0, none⟩) 1 1 := ⟨_, rfl⟩
      have own1 : OwnK W1 w1.heap.size 5 .u8 v1 [3] := by rw [hW1, hv1]; exact own_lit _ (by decide) _ (Nat.le_refl _)
      rw [← hW1, ← hv1]
      clear hW1 hv1
      have m0 := (p1.cell (p := ⟨bg, 0, none⟩) (lt_of_cell k0)).trans k0
      have m1 := (p1.cell (p := ⟨bg, 1, none⟩) (lt_of_cell k1)).trans k1
      have m2 := (p1.cell (p := ⟨bg, 2, none⟩) (lt_of_cell k2)).trans k2
      have m3 := (p1.cell (p := ⟨bg, 3, none⟩) (lt_of_cell k3)).trans k3
      go_wp2_with (fail)
      refine (usesV_h 3 true _ rfl).mono ?_
      rintro e w2_ ⟨rfl, hw2_⟩
      obtain rfl := hw2_.symm
      clear hw2_
      go_wp2_with (first
        | (at_builtin; refine wp_app_lit rfl _ _ rfl w1.heap.size _ [3] rfl own1 [vs] 1 1 rfl rfl (by simp) p1.size ?_
           intro v2 W2 ownW2 hbW2
           have p2 := p1.trans hbW2
           have h0 := (p2.cell (p := ⟨bg, 0, none⟩) (lt_of_cell k0)).trans k0
           have h1 := (p2.cell (p := ⟨bg, 1, none⟩) (lt_of_cell k1)).trans k1
           have h2 := (p2.cell (p := ⟨bg, 2, none⟩) (lt_of_cell k2)).trans k2
           have h3 := (p2.cell (p := ⟨bg, 3, none⟩) (lt_of_cell k3)).trans k3
           clear m0 m1 m2 m3))
      go_wp2_with (fail)
      refine (usesR_h 3 false _ rfl).mono ?_
      rintro e w2_ ⟨rfl, hw2_⟩
      obtain rfl := hw2_.symm
      clear hw2_
      go_wp2
      go_loopw [5, 39] (fun b i wr => FRelH w1 ([] : List Rg) [3, vs] b i wr) (fun _ i _ => 0 - (intOf i).toNat)
      case atStart => exact ⟨0, rfl, Nat.zero_le _, by simpa using ownW2, p2⟩
      case round =>
        obtain ⟨j, rfl, hj, hown, hbr⟩ := hrel
        rw [← HN.out] at hj
        have HO := Lib.hid hown
        clear hown h0 h1 h2 h3 own1 ownW2 p2 p1 hbW2
        have m0 := (hbr.cell (p := ⟨bg, 0, none⟩) (lt_of_cell k0)).trans k0
        have m1 := (hbr.cell (p := ⟨bg, 1, none⟩) (lt_of_cell k1)).trans k1
        have m2 := (hbr.cell (p := ⟨bg, 2, none⟩) (lt_of_cell k2)).trans k2
        have m3 := (hbr.cell (p := ⟨bg, 3, none⟩) (lt_of_cell k3)).trans k3
        clear k0 k1 k2 k3
        have hgo : ¬ j < 0 := by omega
        have HO2 := Lib.hid (show OwnK wr w1.heap.size 5 .u8 u5 [3, vs] from by have := HO.out; simpa using this)
        clear ha1 HO
        go_wp2_with (fail)
        refine (usesP_h 3 false _ rfl).mono ?_
        rintro e w2_ ⟨rfl, hw2_⟩
        obtain rfl := hw2_.symm
        clear hw2_
        go_wp2
        go_ret2
        exact ⟨_, rfl, by rw [← HBS.out]; exact HO2.out.base q1.size, q1.trans (hbr.mono q1.size)⟩
    · have hn64 : 1 ≤ n ∧ n ≤ 64 := by have := (HK.out.len (show (4 : Int) ≤ 4 by decide)); rw [HN.out]; simpa using this
      have HBd := Lib.hid (fun (j : Nat) (hj : j < rs.length) => bd_of_any (HK.out.ok (show (4 : Int) ≤ 4 by decide)) hj)
      obtain rfl : vs = 0 := HK.out.vs0 (show ¬ ((4 : Int) = 3) by decide)
      obtain rfl : pts = 0 := HK.out.pts0 (show ¬ ((4 : Int) = 5) by decide)
      have HBS := Lib.hid (show [4, (n : Int)] ++ (rs.map rgK).map rgB = bs by rw [← HB.out, if_pos rfl]; unfold formB; simp [HN.out])
      have ha1 := ha1.now (fun _ => Nat.succ_pos 2)
      go_upto_region 5 with (fail)
      obtain ⟨W1, hW1⟩ : ∃ W1, W1 = w1.alloc (.cells #[.int .u8 4] 5) := ⟨_, rfl⟩
      have p1 : Below w1.heap.size w1 W1 := by rw [hW1]; exact (Below.refl _ _).alloc (Nat.le_refl _) _
      obtain ⟨v1, hv1⟩ : ∃ v, v = Value.slice (some ⟨w1.heap.size, 0, none⟩) 1 1 := ⟨_, rfl⟩
      have own1 : OwnK W1 w1.heap.size 5 .u8 v1 [4] := by rw [hW1, hv1]; exact own_lit _ (by decide) _ (Nat.le_refl _)
      rw [← hW1, ← hv1]
      clear hW1 hv1
      have m0 := (p1.cell (p := ⟨bg, 0, none⟩) (lt_of_cell k0)).trans k0
      have m1 := (p1.cell (p := ⟨bg, 1, none⟩) (lt_of_cell k1)).trans k1
      have m2 := (p1.cell (p := ⟨bg, 2, none⟩) (lt_of_cell k2)).trans k2
      have m3 := (p1.cell (p := ⟨bg, 3, none⟩) (lt_of_cell k3)).trans k3
      go_wp2_with (fail)
      refine (usesV_h 4 false _ rfl).mono ?_
      rintro e w2_ ⟨rfl, hw2_⟩
      obtain rfl := hw2_.symm
      clear hw2_
      go_wp2_with (fail)
      refine (usesR_h 4 true _ rfl).mono ?_
      rintro e w2_ ⟨rfl, hw2_⟩
      obtain rfl := hw2_.symm
      clear hw2_
      go_wp2_with (first
        | (at_builtin; refine wp_app_lit rfl _ _ rfl w1.heap.size _ [4] rfl own1 [(n : Int)] 1 1 rfl rfl (by simp) p1.size ?_
           intro v2 W2 ownW2 hbW2
           have p2 := p1.trans hbW2
           have h0 := (p2.cell (p := ⟨bg, 0, none⟩) (lt_of_cell k0)).trans k0
           have h1 := (p2.cell (p := ⟨bg, 1, none⟩) (lt_of_cell k1)).trans k1
           have h2 := (p2.cell (p := ⟨bg, 2, none⟩) (lt_of_cell k2)).trans k2
           have h3 := (p2.cell (p := ⟨bg, 3, none⟩) (lt_of_cell k3)).trans k3
           clear m0 m1 m2 m3))
      go_wp2
      go_loopw [5, 39] (fun b i wr => FRelH w1 rs [4, (n : Int)] b i wr) (fun _ i _ => n - (intOf i).toNat)
      case atStart => exact ⟨0, rfl, Nat.zero_le _, by simpa using ownW2, p2⟩
      case round =>
        obtain ⟨j, rfl, hj, hown, hbr⟩ := hrel
        rw [← HN.out] at hj
        have HO := Lib.hid hown
        clear hown h0 h1 h2 h3 own1 ownW2 p2 p1 hbW2
        have m0 := (hbr.cell (p := ⟨bg, 0, none⟩) (lt_of_cell k0)).trans k0
        have m1 := (hbr.cell (p := ⟨bg, 1, none⟩) (lt_of_cell k1)).trans k1
        have m2 := (hbr.cell (p := ⟨bg, 2, none⟩) (lt_of_cell k2)).trans k2
        have m3 := (hbr.cell (p := ⟨bg, 3, none⟩) (lt_of_cell k3)).trans k3
        clear k0 k1 k2 k3
        by_cases hgj : j < n
        · have hgj2 : j < rs.length := by rw [← HN.out]; exact hgj
          have HB1 := Lib.hid (bytes_snoc hgj2 [4, (n : Int)])
          have hvb := HBd.out j hgj2
          obtain ⟨b, o, rfl, ⟨hSb, hbl⟩, c0, c1, c2⟩ := ha1.rg2 hgj2
          have c0 := (hbr.cell (p := ⟨b, o + j * 3, none⟩) hbl).trans c0
          have c1 := (hbr.cell (p := ⟨b, o + j * 3 + 1, none⟩) hbl).trans c1
          have c2 := (hbr.cell (p := ⟨b, o + j * 3 + 2, none⟩) hbl).trans c2
          obtain ⟨x, hx⟩ : ∃ x, rgB (rgK rs[j]) = x := ⟨_, rfl⟩
          rw [hx] at HB1
          have HX1 := Lib.hid hx
          clear hx
          generalize rs[j]'hgj2 = g at *
          obtain ⟨d, v, A2, cp, l⟩ := g
          have hX2 := HX1.out
          unfold rgK at hX2
          simp only at c0 c1 c2 hX2 hvb
          have HX2 := Lib.hid hX2
          obtain ⟨m, hm⟩ : ∃ m, m = l.length := ⟨_, rfl⟩
          rw [← hm] at c2
          obtain ⟨W, hW⟩ : ∃ W, W = wr.alloc (.cells #[.bool d, .int .i64 v, .slice A2 m cp] 52) := ⟨_, rfl⟩
          obtain ⟨B, hB⟩ : ∃ B, B = wr.heap.size := ⟨_, rfl⟩
          have h0 : Below wr.heap.size wr W := by rw [hW]; exact (Below.refl _ _).alloc (Nat.le_refl _) _
          have i0 : W.cell? ⟨B, 0, none⟩ = some (.bool d) := by rw [hW, hB]; simp [go_sem]
          have i1 : W.cell? ⟨B, 1, none⟩ = some (.int .i64 v) := by rw [hW, hB]; simp [go_sem]
          have i2 : W.cell? ⟨B, 2, none⟩ = some (.slice A2 m cp) := by rw [hW, hB]; simp [go_sem]
          have HO2 := Lib.hid (own_nextH HO.out h0)
          have hbW := hbr.trans (h0.mono hbr.size)
          have HW := Lib.hid hW
          have HBB := Lib.hid hB
          have hj64 : (rs.take j).length ≤ 64 := by rw [List.length_take]; omega
          clear hW hB hm hgj2 ha1 hX2 HX1 HO
          go_wp2_with (fail)
          rw [← HW.out, ← HBB.out]
          refine (byteOf_h d v (.slice A2 m cp) x W hvb HX2.out).mono ?_
          rintro e w3 ⟨rfl, h3⟩
          have h4 := hbW.trans (h3.mono hbW.size)
          have HO3 := Lib.hid (own_nextH HO2.out h3)
          clear HO2 i0 i1 i2 c0 c1 c2
          go_wp2_with (first
            | (at_builtin; refine wp_app_lit rfl _ _ rfl w1.heap.size _ _ rfl HO3.out [x] 1 1 rfl rfl (by simp; omega) h4.size ?_
               intro v5 W5 own5 hb5))
          go_roundw
          case rel => exact ⟨j + 1, by go_num, by rw [← HN.out]; omega, by rw [HB1.out]; exact own5, h4.trans hb5⟩
          case measure => simp [intOf]; omega
        · have HT := Lib.hid (show rs.take j = rs from List.take_of_length_le (by rw [← HN.out]; omega))
          rw [HT.out] at HO
          have hrl : rs.length ≤ 64 := by rw [← HN.out]; omega
          clear ha1
          go_wp2_with (fail)
          refine (usesP_h 4 false _ rfl).mono ?_
          rintro e w2_ ⟨rfl, hw2_⟩
          obtain rfl := hw2_.symm
          clear hw2_
          go_wp2
          go_ret2
          exact ⟨_, rfl, by rw [← HBS.out]; exact HO.out.base q1.size, q1.trans (hbr.mono q1.size)⟩
    · have hn64 : 1 ≤ n ∧ n ≤ 64 := by have := (HK.out.len (show (4 : Int) ≤ 5 by decide)); rw [HN.out]; simpa using this
      have HBd := Lib.hid (fun (j : Nat) (hj : j < rs.length) => bd_of_any (HK.out.ok (show (4 : Int) ≤ 5 by decide)) hj)
      obtain rfl : vs = 0 := HK.out.vs0 (show ¬ ((5 : Int) = 3) by decide)
      have hp5 := HK.out.pts5 rfl
      simp only at hp5
      have HBS := Lib.hid (show [5, (n : Int)] ++ (rs.map rgK).map rgB ++ [pts % 256, pts / 256] = bs by rw [← HB.out, if_pos rfl]; unfold formB; simp [HN.out])
      have ha1 := ha1.now (fun _ => Nat.succ_pos 2)
      go_upto_region 5 with (fail)
      obtain ⟨W1, hW1⟩ : ∃ W1, W1 = w1.alloc (.cells #[.int .u8 5] 5) := ⟨_, rfl⟩
      have p1 : Below w1.heap.size w1 W1 := by rw [hW1]; exact (Below.refl _ _).alloc (Nat.le_refl _) _
      obtain ⟨v1, hv1⟩ : ∃ v, v = Value.slice (some ⟨w1.heap.size, 0, none⟩) 1 1 := ⟨_, rfl⟩
      have own1 : OwnK W1 w1.heap.size 5 .u8 v1 [5] := by rw [hW1, hv1]; exact own_lit _ (by decide) _ (Nat.le_refl _)
      rw [← hW1, ← hv1]
      clear hW1 hv1
      have m0 := (p1.cell (p := ⟨bg, 0, none⟩) (lt_of_cell k0)).trans k0
      have m1 := (p1.cell (p := ⟨bg, 1, none⟩) (lt_of_cell k1)).trans k1
      have m2 := (p1.cell (p := ⟨bg, 2, none⟩) (lt_of_cell k2)).trans k2
      have m3 := (p1.cell (p := ⟨bg, 3, none⟩) (lt_of_cell k3)).trans k3
      go_wp2_with (fail)
      refine (usesV_h 5 false _ rfl).mono ?_
      rintro e w2_ ⟨rfl, hw2_⟩
      obtain rfl := hw2_.symm
      clear hw2_
      go_wp2_with (fail)
      refine (usesR_h 5 true _ rfl).mono ?_
      rintro e w2_ ⟨rfl, hw2_⟩
      obtain rfl := hw2_.symm
      clear hw2_
      go_wp2_with (first
        | (at_builtin; refine wp_app_lit rfl _ _ rfl w1.heap.size _ [5] rfl own1 [(n : Int)] 1 1 rfl rfl (by simp) p1.size ?_
           intro v2 W2 ownW2 hbW2
           have p2 := p1.trans hbW2
           have h0 := (p2.cell (p := ⟨bg, 0, none⟩) (lt_of_cell k0)).trans k0
           have h1 := (p2.cell (p := ⟨bg, 1, none⟩) (lt_of_cell k1)).trans k1
           have h2 := (p2.cell (p := ⟨bg, 2, none⟩) (lt_of_cell k2)).trans k2
           have h3 := (p2.cell (p := ⟨bg, 3, none⟩) (lt_of_cell k3)).trans k3
           clear m0 m1 m2 m3))
      go_wp2
      go_loopw [5, 39] (fun b i wr => FRelH w1 rs [5, (n : Int)] b i wr) (fun _ i _ => n - (intOf i).toNat)
      case atStart => exact ⟨0, rfl, Nat.zero_le _, by simpa using ownW2, p2⟩
      case round =>
        obtain ⟨j, rfl, hj, hown, hbr⟩ := hrel
        rw [← HN.out] at hj
        have HO := Lib.hid hown
        clear hown h0 h1 h2 h3 own1 ownW2 p2 p1 hbW2
        have m0 := (hbr.cell (p := ⟨bg, 0, none⟩) (lt_of_cell k0)).trans k0
        have m1 := (hbr.cell (p := ⟨bg, 1, none⟩) (lt_of_cell k1)).trans k1
        have m2 := (hbr.cell (p := ⟨bg, 2, none⟩) (lt_of_cell k2)).trans k2
        have m3 := (hbr.cell (p := ⟨bg, 3, none⟩) (lt_of_cell k3)).trans k3
        clear k0 k1 k2 k3
        by_cases hgj : j < n
        · have hgj2 : j < rs.length := by rw [← HN.out]; exact hgj
          have HB1 := Lib.hid (bytes_snoc hgj2 [5, (n : Int)])
          have hvb := HBd.out j hgj2
          obtain ⟨b, o, rfl, ⟨hSb, hbl⟩, c0, c1, c2⟩ := ha1.rg2 hgj2
          have c0 := (hbr.cell (p := ⟨b, o + j * 3, none⟩) hbl).trans c0
          have c1 := (hbr.cell (p := ⟨b, o + j * 3 + 1, none⟩) hbl).trans c1
          have c2 := (hbr.cell (p := ⟨b, o + j * 3 + 2, none⟩) hbl).trans c2
          obtain ⟨x, hx⟩ : ∃ x, rgB (rgK rs[j]) = x := ⟨_, rfl⟩
          rw [hx] at HB1
          have HX1 := Lib.hid hx
          clear hx
          generalize rs[j]'hgj2 = g at *
          obtain ⟨d, v, A2, cp, l⟩ := g
          have hX2 := HX1.out
          unfold rgK at hX2
          simp only at c0 c1 c2 hX2 hvb
          have HX2 := Lib.hid hX2
          obtain ⟨m, hm⟩ : ∃ m, m = l.length := ⟨_, rfl⟩
          rw [← hm] at c2
          obtain ⟨W, hW⟩ : ∃ W, W = wr.alloc (.cells #[.bool d, .int .i64 v, .slice A2 m cp] 52) := ⟨_, rfl⟩
          obtain ⟨B, hB⟩ : ∃ B, B = wr.heap.size := ⟨_, rfl⟩
          have h0 : Below wr.heap.size wr W := by rw [hW]; exact (Below.refl _ _).alloc (Nat.le_refl _) _
          have i0 : W.cell? ⟨B, 0, none⟩ = some (.bool d) := by rw [hW, hB]; simp [go_sem]
          have i1 : W.cell? ⟨B, 1, none⟩ = some (.int .i64 v) := by rw [hW, hB]; simp [go_sem]
          have i2 : W.cell? ⟨B, 2, none⟩ = some (.slice A2 m cp) := by rw [hW, hB]; simp [go_sem]
          have HO2 := Lib.hid (own_nextH HO.out h0)
          have hbW := hbr.trans (h0.mono hbr.size)
          have HW := Lib.hid hW
          have HBB := Lib.hid hB
          have hj64 : (rs.take j).length ≤ 64 := by rw [List.length_take]; omega
          clear hW hB hm hgj2 ha1 hX2 HX1 HO
          go_wp2_with (fail)
          rw [← HW.out, ← HBB.out]
          refine (byteOf_h d v (.slice A2 m cp) x W hvb HX2.out).mono ?_
          rintro e w3 ⟨rfl, h3⟩
          have h4 := hbW.trans (h3.mono hbW.size)
          have HO3 := Lib.hid (own_nextH HO2.out h3)
          clear HO2 i0 i1 i2 c0 c1 c2
          go_wp2_with (first
            | (at_builtin; refine wp_app_lit rfl _ _ rfl w1.heap.size _ _ rfl HO3.out [x] 1 1 rfl rfl (by simp; omega) h4.size ?_
               intro v5 W5 own5 hb5))
          go_roundw
          case rel => exact ⟨j + 1, by go_num, by rw [← HN.out]; omega, by rw [HB1.out]; exact own5, h4.trans hb5⟩
          case measure => simp [intOf]; omega
        · have HT := Lib.hid (show rs.take j = rs from List.take_of_length_le (by rw [← HN.out]; omega))
          rw [HT.out] at HO
          have hrl : rs.length ≤ 64 := by rw [← HN.out]; omega
          clear ha1
          go_wp2_with (fail)
          refine (usesP_h 5 true _ rfl).mono ?_
          rintro e w2_ ⟨rfl, hw2_⟩
          obtain rfl := hw2_.symm
          clear hw2_
          go_wp2_with (first
            | (at_builtin; refine wp_app_lit rfl _ _ rfl w1.heap.size _ _ rfl HO.out [pts % 256, pts / 256] 2 2 rfl rfl (by simp; omega) hbr.size ?_
               intro v3 W3 own3 hb3))
          go_ret2
          exact ⟨_, rfl, by rw [← HBS.out]; exact own3.base q1.size, q1.trans ((hbr.trans hb3).mono q1.size)⟩
  · have HX := Lib.hid (show [] = bs by rw [← HB.out, if_neg e0])
    have d0 : (er != 0) = true := by rw [bne_iff_ne]; exact e0
    clear e0
    go_wp2
    go_ret2
    exact ⟨_, rfl, by rw [← HX.out]; exact OwnK.nil_ _ _ _ _, q1⟩
end Go.Proofs.YtokabljeekokmaaDoor
