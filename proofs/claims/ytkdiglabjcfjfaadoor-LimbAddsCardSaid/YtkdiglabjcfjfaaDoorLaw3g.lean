/-
  The walk of the law LimbAdds.
-/
import Derived.Test.YtkdiglabjcfjfaaDoorLaw3d
import Derived.StillTactics
import Derived.Deep.DeepCutAuto
import Derived.Deep.CutRange
import Derived.Deep.RegionHeld3
namespace Go.Proofs.YtkdiglabjcfjfaaDoor
open Go.RowKit

theorem r3neg_c (v : Value) (x y : Int) (L : Nat) (S : Nat → Prop) (w : World) (h : NumR w S L v x) (hy : -x = y) : Calls Tryd.prog 25 #[v] w (GivesNum w S L y) := by
  subst hy; exact r3neg_any v x L S w h
theorem heldB {wc w' : World} {p5 p6 : Nat} {v0 v1 v2 v3 : Value} (h : (w'.cell? ⟨p5, 0, none⟩ = some v0 ∧ w'.cell? ⟨p5, 1, none⟩ = some v1) ∧ (w'.cell? ⟨p6, 0, none⟩ = some v2 ∧ w'.cell? ⟨p6, 1, none⟩ = some v3) ∧ Below wc.heap.size wc w') : Below wc.heap.size wc w' := h.2.2
theorem held5 {wc w' : World} {p5 p6 : Nat} {v0 v1 v2 v3 : Value} (h : (w'.cell? ⟨p5, 0, none⟩ = some v0 ∧ w'.cell? ⟨p5, 1, none⟩ = some v1) ∧ (w'.cell? ⟨p6, 0, none⟩ = some v2 ∧ w'.cell? ⟨p6, 1, none⟩ = some v3) ∧ Below wc.heap.size wc w') : (w'.cell? ⟨p5, 0, none⟩ = some v0 ∧ w'.cell? ⟨p5, 1, none⟩ = some v1) := h.1
theorem heldC {wc w' : World} {p5 : Nat} {v0 v1 : Value} (h : (w'.cell? ⟨p5, 0, none⟩ = some v0 ∧ w'.cell? ⟨p5, 1, none⟩ = some v1) ∧ Below wc.heap.size wc w') : Below wc.heap.size wc w' := h.2
theorem keep2 {wc w' w1 : World} {p5 : Nat} {v0 v1 : Value} (hb : Below w'.heap.size w' w1) (h : (w'.cell? ⟨p5, 0, none⟩ = some v0 ∧ w'.cell? ⟨p5, 1, none⟩ = some v1) ∧ Below wc.heap.size wc w') :
    (w1.cell? ⟨p5, 0, none⟩ = some v0 ∧ w1.cell? ⟨p5, 1, none⟩ = some v1) ∧ Below wc.heap.size wc w1 := by
  obtain ⟨⟨h0, h1⟩, h4⟩ := h
  exact ⟨⟨(hb.cell (p := ⟨p5, 0, none⟩) (lt_of_cell h0)).trans h0, (hb.cell (p := ⟨p5, 1, none⟩) (lt_of_cell h1)).trans h1⟩, h4.trans (hb.mono h4.size)⟩
theorem keep4 {wc w' w1 : World} {p5 p6 : Nat} {v0 v1 v2 v3 : Value} (hb : Below w'.heap.size w' w1) (h : (w'.cell? ⟨p5, 0, none⟩ = some v0 ∧ w'.cell? ⟨p5, 1, none⟩ = some v1) ∧ (w'.cell? ⟨p6, 0, none⟩ = some v2 ∧ w'.cell? ⟨p6, 1, none⟩ = some v3) ∧ Below wc.heap.size wc w') :
    (w1.cell? ⟨p5, 0, none⟩ = some v0 ∧ w1.cell? ⟨p5, 1, none⟩ = some v1) ∧ (w1.cell? ⟨p6, 0, none⟩ = some v2 ∧ w1.cell? ⟨p6, 1, none⟩ = some v3) ∧ Below wc.heap.size wc w1 := by
  obtain ⟨⟨h0, h1⟩, ⟨h2, h3⟩, h4⟩ := h
  exact ⟨⟨(hb.cell (p := ⟨p5, 0, none⟩) (lt_of_cell h0)).trans h0, (hb.cell (p := ⟨p5, 1, none⟩) (lt_of_cell h1)).trans h1⟩, ⟨(hb.cell (p := ⟨p6, 0, none⟩) (lt_of_cell h2)).trans h2, (hb.cell (p := ⟨p6, 1, none⟩) (lt_of_cell h3)).trans h3⟩, h4.trans (hb.mono h4.size)⟩
def AddsAt (w : World) (la lb : List Int) (s5 s6 : Value) (wx : World) : Prop :=
  ∃ (p5 p6 : Nat) (X Y : Option Addr) (cx cy : Nat) (dx dy : List Int), s5 = .pointer (some ⟨p5, 0, none⟩) ∧ s6 = .pointer (some ⟨p6, 0, none⟩) ∧
    (wx.cell? ⟨p5, 0, none⟩ = some (.int .i64 (sv la).sign) ∧ wx.cell? ⟨p5, 1, none⟩ = some (.slice X dx.length cx)) ∧ (wx.cell? ⟨p6, 0, none⟩ = some (.int .i64 (sv lb).sign) ∧ wx.cell? ⟨p6, 1, none⟩ = some (.slice Y dy.length cy)) ∧
    NumR wx (fun _ => True) 300 (.agg #[.int .i64 (sv la).sign, .slice X dx.length cx]) (sv la) ∧ NumR wx (fun _ => True) 300 (.agg #[.int .i64 (sv lb).sign, .slice Y dy.length cy]) (sv lb) ∧ Below w.heap.size w wx
set_option maxHeartbeats 1000000 in
theorem law_limbAdds_yes (A B : Option Addr) (c d : Nat) (la lb : List Int) (w : World) (hw : Wts w) (ha : Arg w A c la) (hb : Arg w B d lb) (h1 : 1 ≤ la.length) (h8 : la.length ≤ 8) (hl : la.length = lb.length) :
    Calls Tryd.prog 4 #[.slice A la.length c, .slice B lb.length d] w fun e w' => e = .returned (.bool true) ∧ Below w.heap.size w w' := by
  have hb1 : Below w.heap.size w (w.alloc (.cells #[.slice A la.length c, .slice B lb.length d] 22)) := (Below.refl _ _).alloc (Nat.le_refl _) _
  have hw1 := hw.below hb1
  have HL := Lib.hid hl
  have l1 : 1 ≤ lb.length := by omega
  have l8 : lb.length ≤ 8 := by omega
  clear hl
  go_enter Tryd.func4, Tryd.ntmps4
  go_wp2_with (fail)
  refine (long2_no _ la.length c lb.length d A B _ (by simp [go_sem]) (by simp [go_sem]) (by omega) (by omega)).mono ?_
  rintro e w' ⟨rfl, rfl⟩
  go_upto_region 4 with (first
    | (go_at_call_of 18 (Value.slice A la.length c); refine (r3value_any A c la (fun _ => True) _ _ ((ha.next hb1).sl) ha.us (by omega) (fun _ _ => trivial)).mono ?_; rintro e w2 ⟨_, rfl, ⟨X, cx, dx, rfl, hx⟩, hb2⟩)
    | (go_at_call_of 18 (Value.slice B lb.length d); refine (r3value_any B d lb (fun _ => True) _ _ (((hb.next hb1).next hb2).sl) hb.us (by omega) (fun _ _ => trivial)).mono ?_; rintro e w3 ⟨_, rfl, ⟨Y, cy, dy, rfl, hy⟩, hb3⟩))
  have hx3 : NumR w3 (fun _ => True) 300 (.agg #[.int .i64 (sv la).sign, .slice X dx.length cx]) (sv la) := (NumR.next ⟨X, cx, dx, rfl, hx.1, hx.2.1, hx.2.2.1, hx.2.2.2.1, by have := hx.2.2.2.2; omega⟩ hb3)
  have hy3 : NumR w3 (fun _ => True) 300 (.agg #[.int .i64 (sv lb).sign, .slice Y dy.length cy]) (sv lb) := ⟨Y, cy, dy, rfl, hy.1, hy.2.1, hy.2.2.1, hy.2.2.2.1, by have := hy.2.2.2.2; omega⟩
  have hw3' : Below w.heap.size w w3 := (hb1.trans (hb2.mono hb1.size)).trans (hb3.mono ((hb1.trans (hb2.mono hb1.size)).size))
  have hnew : Below w3.heap.size w3 ((w3.alloc (.cells #[.int .i64 (sv la).sign, .slice X dx.length cx] 31)).alloc (.cells #[.int .i64 (sv lb).sign, .slice Y dy.length cy] 31)) := ((Below.refl _ _).alloc (Nat.le_refl _) _).alloc (by simp) _
  have F1 : ((w3.alloc (.cells #[.int .i64 (sv la).sign, .slice X dx.length cx] 31)).alloc (.cells #[.int .i64 (sv lb).sign, .slice Y dy.length cy] 31)).cell? ⟨w3.heap.size, 0, none⟩ = some (.int .i64 (sv la).sign) := by simp [go_sem]
  have F2 : ((w3.alloc (.cells #[.int .i64 (sv la).sign, .slice X dx.length cx] 31)).alloc (.cells #[.int .i64 (sv lb).sign, .slice Y dy.length cy] 31)).cell? ⟨w3.heap.size, 1, none⟩ = some (.slice X dx.length cx) := by simp [go_sem]
  have F3 : ((w3.alloc (.cells #[.int .i64 (sv la).sign, .slice X dx.length cx] 31)).alloc (.cells #[.int .i64 (sv lb).sign, .slice Y dy.length cy] 31)).cell? ⟨w3.heap.size + 1, 0, none⟩ = some (.int .i64 (sv lb).sign) := by simp [go_sem]
  have F4 : ((w3.alloc (.cells #[.int .i64 (sv la).sign, .slice X dx.length cx] 31)).alloc (.cells #[.int .i64 (sv lb).sign, .slice Y dy.length cy] 31)).cell? ⟨w3.heap.size + 1, 1, none⟩ = some (.slice Y dy.length cy) := by simp [go_sem]
  have hx4 := hx3.next hnew
  have hy4 := hy3.next hnew
  have hwc := hw3'.trans (hnew.mono hw3'.size)
  clear hx hy hx3 hy3 hnew
  generalize ((w3.alloc (.cells #[.int .i64 (sv la).sign, .slice X dx.length cx] 31)).alloc (.cells #[.int .i64 (sv lb).sign, .slice Y dy.length cy] 31)) = wc at F1 F2 F3 F4 hx4 hy4 hwc ⊢
  have hwt := hw.below hwc
  have hac := ha.next hwc
  have hbc := hb.next hwc
  have BR := Below.refl wc.heap.size wc
  have hp : Pair la.length lb.length := ⟨h1, h8, HL.out⟩
  clear hb1 hw1 hb2 hb3 hw3'
  go_cut [37] (fun s37 wx => s37 = .bool false ∧ (wx.cell? ⟨w3.heap.size, 0, none⟩ = some (.int .i64 (sv la).sign) ∧ wx.cell? ⟨w3.heap.size, 1, none⟩ = some (.slice X dx.length cx)) ∧ Below wc.heap.size wc wx)
  case first =>
    go_region_held3 (fun w' => (w'.cell? ⟨w3.heap.size, 0, none⟩ = some (.int .i64 (sv la).sign) ∧ w'.cell? ⟨w3.heap.size, 1, none⟩ = some (.slice X dx.length cx)) ∧ (w'.cell? ⟨w3.heap.size + 1, 0, none⟩ = some (.int .i64 (sv lb).sign) ∧ w'.cell? ⟨w3.heap.size + 1, 1, none⟩ = some (.slice Y dy.length cy)) ∧ Below wc.heap.size wc w')
      (first | exact ⟨⟨F1, F2⟩, ⟨F3, F4⟩, Below.drew BR⟩ | exact keep4 (by assumption) (by assumption) | go_keep)
      (first
        | (go_at_call 20; refine (limbAdd_yes A B c d la lb _ (hwt.below (by exact heldB (by assumption))) (hac.next (by exact heldB (by assumption))) (hbc.next (by exact heldB (by assumption))) h1 h8 HL.out).mono ?_; rintro e wA ⟨G, gc, rfl, hgc, hgA, hbA⟩)
        | (go_at_call 21; refine (r3add_any _ _ (sv la) (sv lb) 300 300 (fun _ => True) _ (hx4.next (by exact heldB (by assumption))) (hy4.next (by exact heldB (by assumption))) (by decide) (by decide) (fun _ _ => trivial)).mono ?_; rintro e wZ ⟨_, rfl, ⟨Z, zc, dz, rfl, hz⟩, hbZ⟩)
        | (go_at_call 22; refine (limbSub_yes A B c d la lb _ (hwt.below (by exact heldB (by assumption))) (hac.next (by exact heldB (by assumption))) (hbc.next (by exact heldB (by assumption))) h1 h8 HL.out).mono ?_; rintro e wS ⟨G2, gc2, rfl, hgc2, hgS, hbS⟩)
        | (go_at_call 23; refine (r3sub_any _ _ (sv la) (sv lb) 300 300 (fun _ => True) _ (hx4.next (by exact heldB (by assumption))) (hy4.next (by exact heldB (by assumption))) (by decide) (by decide) (fun _ _ => trivial)).mono ?_; rintro e wY ⟨_, rfl, ⟨Z2, zc2, dz2, rfl, hz2⟩, hbY⟩)
        | (go_at_call_of 19 (Value.slice G (limbs la.length (sv la + sv lb)).length gc); refine (binary_yes G A B gc c d _ la.length lb.length (sv la + sv lb) _ 301 _ (fun _ => True) _ (by first | exact hgA | exact hgA.next hbZ) rfl hp (by first | exact ⟨Z, zc, dz, rfl, hz⟩ | exact NumR.next ⟨Z, zc, dz, rfl, hz⟩ hbA) (by decide)).mono ?_; rintro e wB ⟨rfl, hbB⟩)
        | (go_at_call_of 19 (Value.slice G2 (limbs la.length (sv la - sv lb)).length gc2); refine (binary_yes G2 A B gc2 c d _ la.length lb.length (sv la - sv lb) _ 301 _ (fun _ => True) _ (by first | exact hgS | exact hgS.next hbY) rfl hp (by first | exact ⟨Z2, zc2, dz2, rfl, hz2⟩ | exact NumR.next ⟨Z2, zc2, dz2, rfl, hz2⟩ hbS) (by decide)).mono ?_; rintro e wC ⟨rfl, hbC⟩))
    all_goals (go_wp2_with (fail); go_meet; exact ⟨rfl, held5 (by assumption), heldB (by assumption)⟩)
  case rest =>
    rename_i wd
    obtain ⟨rfl, ⟨d0, d1⟩, hbd⟩ := hcut
    have hwt' := hwt.below hbd
    have hac' := hac.next hbd
    have hx5 := hx4.next hbd
    have hwd := hwc.trans (hbd.mono hwc.size)
    clear hwt hac hbc hx4 hy4 hwc F1 F2 F3 F4 BR hbd
    have BD := Below.refl wc.heap.size wc
    obtain ⟨y, hy⟩ : ∃ y, -sv la = y := ⟨_, rfl⟩
    have HY := Lib.hid hy
    clear hy
    go_wp2_with (fail)
    go_region_held3 (fun w' => (w'.cell? ⟨w3.heap.size, 0, none⟩ = some (.int .i64 (sv la).sign) ∧ w'.cell? ⟨w3.heap.size, 1, none⟩ = some (.slice X dx.length cx)) ∧ Below wc.heap.size wc w')
      (first | exact ⟨⟨d0, d1⟩, Below.drew BD⟩ | exact keep2 (by assumption) (by assumption) | go_keep)
      (first
        | (go_at_call 11; refine (alive3 _ (hwt'.below (by exact heldC (by assumption)))).mono ?_; rintro e wL ⟨rfl, hbL⟩)
        | (go_at_call 24; refine (limbNeg_yes A c la _ (hwt'.below (by exact heldC (by assumption))) (hac'.next (by exact heldC (by assumption))) h1 h8).mono ?_; rintro e wA ⟨G, gc, rfl, hgc, hgA, hbA⟩)
        | (go_at_call 25; refine (r3neg_c _ (sv la) y 300 (fun _ => True) _ (hx5.next (by exact heldC (by assumption))) HY.out).mono ?_; rintro e wZ ⟨_, rfl, ⟨Z, zc, dz, rfl, hz⟩, hbZ⟩)
        | (go_at_call 19; refine (binary_yes G A A gc c c _ la.length la.length y _ 300 _ (fun _ => True) _ (by first | exact hgA | exact hgA.next hbZ) (by rw [HY.out]) ⟨h1, h8, rfl⟩ (by first | exact ⟨Z, zc, dz, rfl, hz⟩ | exact NumR.next ⟨Z, zc, dz, rfl, hz⟩ hbA) (by decide)).mono ?_; rintro e wB ⟨rfl, hbB⟩))
    all_goals (go_wp2; go_ret; exact ⟨rfl, hwd.trans (Below.mono (heldC (by assumption)) hwd.size)⟩)
set_option maxHeartbeats 1000000 in
theorem law_limbAdds_no_is (A B : Option Addr) (c d : Nat) (la lb : List Int) (w : World) (hw : Wts w) (ha : Arg w A c la) (hb : Arg w B d lb) (h1 : 1 ≤ la.length) (h8 : la.length ≤ 8) (hla : la.length ≤ 50) (hlb : lb.length ≤ 50) (hnp : ¬ Pair la.length lb.length) :
    Calls Tryd.prog 4 #[.slice A la.length c, .slice B lb.length d] w fun e w' => e = .returned (.bool true) ∧ Below w.heap.size w w' := by
  have hb1 : Below w.heap.size w (w.alloc (.cells #[.slice A la.length c, .slice B lb.length d] 22)) := (Below.refl _ _).alloc (Nat.le_refl _) _
  have hw1 := hw.below hb1
  have HNP := Lib.hid hnp
  have hno : la.length < 1 ∨ 8 < la.length ∨ la.length ≠ lb.length := by unfold Pair at hnp; omega
  have HNO := Lib.hid hno
  have hla6 : la.length ≤ 1000000 := by omega
  have hlb6 : lb.length ≤ 1000000 := by omega
  clear hnp hno
  go_enter Tryd.func4, Tryd.ntmps4
  go_wp2_with (fail)
  refine (long2_no _ la.length c lb.length d A B _ (by simp [go_sem]) (by simp [go_sem]) (by omega) (by omega)).mono ?_
  rintro e w' ⟨rfl, rfl⟩
  go_upto_region 4 with (first
    | (go_at_call_of 18 (Value.slice A la.length c); refine (r3value_any A c la (fun _ => True) _ _ ((ha.next hb1).sl) ha.us (by omega) (fun _ _ => trivial)).mono ?_; rintro e w2 ⟨_, rfl, ⟨X, cx, dx, rfl, hx⟩, hb2⟩)
    | (go_at_call_of 18 (Value.slice B lb.length d); refine (r3value_any B d lb (fun _ => True) _ _ (((hb.next hb1).next hb2).sl) hb.us (by omega) (fun _ _ => trivial)).mono ?_; rintro e w3 ⟨_, rfl, ⟨Y, cy, dy, rfl, hy⟩, hb3⟩))
  have hx3 : NumR w3 (fun _ => True) 300 (.agg #[.int .i64 (sv la).sign, .slice X dx.length cx]) (sv la) := (NumR.next ⟨X, cx, dx, rfl, hx.1, hx.2.1, hx.2.2.1, hx.2.2.2.1, by have := hx.2.2.2.2; omega⟩ hb3)
  have hy3 : NumR w3 (fun _ => True) 300 (.agg #[.int .i64 (sv lb).sign, .slice Y dy.length cy]) (sv lb) := ⟨Y, cy, dy, rfl, hy.1, hy.2.1, hy.2.2.1, hy.2.2.2.1, by have := hy.2.2.2.2; omega⟩
  have hw3' : Below w.heap.size w w3 := (hb1.trans (hb2.mono hb1.size)).trans (hb3.mono ((hb1.trans (hb2.mono hb1.size)).size))
  have hnew : Below w3.heap.size w3 ((w3.alloc (.cells #[.int .i64 (sv la).sign, .slice X dx.length cx] 31)).alloc (.cells #[.int .i64 (sv lb).sign, .slice Y dy.length cy] 31)) := ((Below.refl _ _).alloc (Nat.le_refl _) _).alloc (by simp) _
  have F1 : ((w3.alloc (.cells #[.int .i64 (sv la).sign, .slice X dx.length cx] 31)).alloc (.cells #[.int .i64 (sv lb).sign, .slice Y dy.length cy] 31)).cell? ⟨w3.heap.size, 0, none⟩ = some (.int .i64 (sv la).sign) := by simp [go_sem]
  have F2 : ((w3.alloc (.cells #[.int .i64 (sv la).sign, .slice X dx.length cx] 31)).alloc (.cells #[.int .i64 (sv lb).sign, .slice Y dy.length cy] 31)).cell? ⟨w3.heap.size, 1, none⟩ = some (.slice X dx.length cx) := by simp [go_sem]
  have F3 : ((w3.alloc (.cells #[.int .i64 (sv la).sign, .slice X dx.length cx] 31)).alloc (.cells #[.int .i64 (sv lb).sign, .slice Y dy.length cy] 31)).cell? ⟨w3.heap.size + 1, 0, none⟩ = some (.int .i64 (sv lb).sign) := by simp [go_sem]
  have F4 : ((w3.alloc (.cells #[.int .i64 (sv la).sign, .slice X dx.length cx] 31)).alloc (.cells #[.int .i64 (sv lb).sign, .slice Y dy.length cy] 31)).cell? ⟨w3.heap.size + 1, 1, none⟩ = some (.slice Y dy.length cy) := by simp [go_sem]
  have hx4 := hx3.next hnew
  have hy4 := hy3.next hnew
  have hwc := hw3'.trans (hnew.mono hw3'.size)
  clear hx hy hx3 hy3 hnew
  generalize ((w3.alloc (.cells #[.int .i64 (sv la).sign, .slice X dx.length cx] 31)).alloc (.cells #[.int .i64 (sv lb).sign, .slice Y dy.length cy] 31)) = wc at F1 F2 F3 F4 hx4 hy4 hwc ⊢
  have hwt := hw.below hwc
  have hac := ha.next hwc
  have hbc := hb.next hwc
  have BR := Below.refl wc.heap.size wc
  clear hb1 hw1 hb2 hb3 hw3'
  go_cut [37] (fun s37 wx => s37 = .bool false ∧ (wx.cell? ⟨w3.heap.size, 0, none⟩ = some (.int .i64 (sv la).sign) ∧ wx.cell? ⟨w3.heap.size, 1, none⟩ = some (.slice X dx.length cx)) ∧ Below wc.heap.size wc wx)
  case first =>
    go_region_held3 (fun w' => (w'.cell? ⟨w3.heap.size, 0, none⟩ = some (.int .i64 (sv la).sign) ∧ w'.cell? ⟨w3.heap.size, 1, none⟩ = some (.slice X dx.length cx)) ∧ (w'.cell? ⟨w3.heap.size + 1, 0, none⟩ = some (.int .i64 (sv lb).sign) ∧ w'.cell? ⟨w3.heap.size + 1, 1, none⟩ = some (.slice Y dy.length cy)) ∧ Below wc.heap.size wc w')
      (first | exact ⟨⟨F1, F2⟩, ⟨F3, F4⟩, Below.drew BR⟩ | exact keep4 (by assumption) (by assumption) | go_keep)
      (first
        | (go_at_call 20; refine (limbAdd_no A B c d la lb _ (hwt.below (by exact heldB (by assumption))) (hac.next (by exact heldB (by assumption))) (hbc.next (by exact heldB (by assumption))) hla6 hlb6 HNO.out).mono ?_; rintro e wA ⟨G, gc, rfl, hbA⟩)
        | (go_at_call 21; refine (r3add_any _ _ (sv la) (sv lb) 300 300 (fun _ => True) _ (hx4.next (by exact heldB (by assumption))) (hy4.next (by exact heldB (by assumption))) (by decide) (by decide) (fun _ _ => trivial)).mono ?_; rintro e wZ ⟨_, rfl, ⟨Z, zc, dz, rfl, hz⟩, hbZ⟩)
        | (go_at_call 22; refine (limbSub_no A B c d la lb _ (hwt.below (by exact heldB (by assumption))) (hac.next (by exact heldB (by assumption))) (hbc.next (by exact heldB (by assumption))) hla6 hlb6 HNO.out).mono ?_; rintro e wS ⟨G2, gc2, rfl, hbS⟩)
        | (go_at_call 23; refine (r3sub_any _ _ (sv la) (sv lb) 300 300 (fun _ => True) _ (hx4.next (by exact heldB (by assumption))) (hy4.next (by exact heldB (by assumption))) (by decide) (by decide) (fun _ _ => trivial)).mono ?_; rintro e wY ⟨_, rfl, ⟨Z2, zc2, dz2, rfl, hz2⟩, hbY⟩)
        | (go_at_call_of 19 (Value.slice G 0 gc); refine (binary_no G A B gc c d la.length lb.length _ _ _ _ _ _ HNP.out rfl).mono ?_; rintro e wB ⟨rfl, hbB⟩)
        | (go_at_call_of 19 (Value.slice G2 0 gc2); refine (binary_no G2 A B gc2 c d la.length lb.length _ _ _ _ _ _ HNP.out rfl).mono ?_; rintro e wC ⟨rfl, hbC⟩))
    all_goals (go_wp2_with (fail); go_meet; exact ⟨rfl, held5 (by assumption), heldB (by assumption)⟩)
  case rest =>
    rename_i wd
    obtain ⟨rfl, ⟨d0, d1⟩, hbd⟩ := hcut
    have hwt' := hwt.below hbd
    have hac' := hac.next hbd
    have hx5 := hx4.next hbd
    have hwd := hwc.trans (hbd.mono hwc.size)
    clear hwt hac hbc hx4 hy4 hwc F1 F2 F3 F4 BR hbd
    have BD := Below.refl wc.heap.size wc
    obtain ⟨y, hy⟩ : ∃ y, -sv la = y := ⟨_, rfl⟩
    have HY := Lib.hid hy
    clear hy
    go_wp2_with (fail)
    go_region_held3 (fun w' => (w'.cell? ⟨w3.heap.size, 0, none⟩ = some (.int .i64 (sv la).sign) ∧ w'.cell? ⟨w3.heap.size, 1, none⟩ = some (.slice X dx.length cx)) ∧ Below wc.heap.size wc w')
      (first | exact ⟨⟨d0, d1⟩, Below.drew BD⟩ | exact keep2 (by assumption) (by assumption) | go_keep)
      (first
        | (go_at_call 11; refine (alive3 _ (hwt'.below (by exact heldC (by assumption)))).mono ?_; rintro e wL ⟨rfl, hbL⟩)
        | (go_at_call 24; refine (limbNeg_yes A c la _ (hwt'.below (by exact heldC (by assumption))) (hac'.next (by exact heldC (by assumption))) h1 h8).mono ?_; rintro e wA ⟨G, gc, rfl, hgc, hgA, hbA⟩)
        | (go_at_call 25; refine (r3neg_c _ (sv la) y 300 (fun _ => True) _ (hx5.next (by exact heldC (by assumption))) HY.out).mono ?_; rintro e wZ ⟨_, rfl, ⟨Z, zc, dz, rfl, hz⟩, hbZ⟩)
        | (go_at_call 19; refine (binary_yes G A A gc c c _ la.length la.length y _ 300 _ (fun _ => True) _ (by first | exact hgA | exact hgA.next hbZ) (by rw [HY.out]) ⟨h1, h8, rfl⟩ (by first | exact ⟨Z, zc, dz, rfl, hz⟩ | exact NumR.next ⟨Z, zc, dz, rfl, hz⟩ hbA) (by decide)).mono ?_; rintro e wB ⟨rfl, hbB⟩))
    all_goals (go_wp2; go_ret; exact ⟨rfl, hwd.trans (Below.mono (heldC (by assumption)) hwd.size)⟩)
set_option maxHeartbeats 1000000 in
theorem law_limbAdds_no_not (A B : Option Addr) (c d : Nat) (la lb : List Int) (w : World) (hw : Wts w) (ha : Arg w A c la) (hb : Arg w B d lb) (h18 : la.length < 1 ∨ 8 < la.length) (hla : la.length ≤ 50) (hlb : lb.length ≤ 50) (hnp : ¬ Pair la.length lb.length) :
    Calls Tryd.prog 4 #[.slice A la.length c, .slice B lb.length d] w fun e w' => e = .returned (.bool true) ∧ Below w.heap.size w w' := by
  have hb1 : Below w.heap.size w (w.alloc (.cells #[.slice A la.length c, .slice B lb.length d] 22)) := (Below.refl _ _).alloc (Nat.le_refl _) _
  have hw1 := hw.below hb1
  have HNP := Lib.hid hnp
  have hno : la.length < 1 ∨ 8 < la.length ∨ la.length ≠ lb.length := by unfold Pair at hnp; omega
  have HNO := Lib.hid hno
  have hla6 : la.length ≤ 1000000 := by omega
  have hlb6 : lb.length ≤ 1000000 := by omega
  clear hnp hno
  go_enter Tryd.func4, Tryd.ntmps4
  go_wp2_with (fail)
  refine (long2_no _ la.length c lb.length d A B _ (by simp [go_sem]) (by simp [go_sem]) (by omega) (by omega)).mono ?_
  rintro e w' ⟨rfl, rfl⟩
  go_upto_region 4 with (first
    | (go_at_call_of 18 (Value.slice A la.length c); refine (r3value_any A c la (fun _ => True) _ _ ((ha.next hb1).sl) ha.us (by omega) (fun _ _ => trivial)).mono ?_; rintro e w2 ⟨_, rfl, ⟨X, cx, dx, rfl, hx⟩, hb2⟩)
    | (go_at_call_of 18 (Value.slice B lb.length d); refine (r3value_any B d lb (fun _ => True) _ _ (((hb.next hb1).next hb2).sl) hb.us (by omega) (fun _ _ => trivial)).mono ?_; rintro e w3 ⟨_, rfl, ⟨Y, cy, dy, rfl, hy⟩, hb3⟩))
  have hx3 : NumR w3 (fun _ => True) 300 (.agg #[.int .i64 (sv la).sign, .slice X dx.length cx]) (sv la) := (NumR.next ⟨X, cx, dx, rfl, hx.1, hx.2.1, hx.2.2.1, hx.2.2.2.1, by have := hx.2.2.2.2; omega⟩ hb3)
  have hy3 : NumR w3 (fun _ => True) 300 (.agg #[.int .i64 (sv lb).sign, .slice Y dy.length cy]) (sv lb) := ⟨Y, cy, dy, rfl, hy.1, hy.2.1, hy.2.2.1, hy.2.2.2.1, by have := hy.2.2.2.2; omega⟩
  have hw3' : Below w.heap.size w w3 := (hb1.trans (hb2.mono hb1.size)).trans (hb3.mono ((hb1.trans (hb2.mono hb1.size)).size))
  have hnew : Below w3.heap.size w3 ((w3.alloc (.cells #[.int .i64 (sv la).sign, .slice X dx.length cx] 31)).alloc (.cells #[.int .i64 (sv lb).sign, .slice Y dy.length cy] 31)) := ((Below.refl _ _).alloc (Nat.le_refl _) _).alloc (by simp) _
  have F1 : ((w3.alloc (.cells #[.int .i64 (sv la).sign, .slice X dx.length cx] 31)).alloc (.cells #[.int .i64 (sv lb).sign, .slice Y dy.length cy] 31)).cell? ⟨w3.heap.size, 0, none⟩ = some (.int .i64 (sv la).sign) := by simp [go_sem]
  have F2 : ((w3.alloc (.cells #[.int .i64 (sv la).sign, .slice X dx.length cx] 31)).alloc (.cells #[.int .i64 (sv lb).sign, .slice Y dy.length cy] 31)).cell? ⟨w3.heap.size, 1, none⟩ = some (.slice X dx.length cx) := by simp [go_sem]
  have F3 : ((w3.alloc (.cells #[.int .i64 (sv la).sign, .slice X dx.length cx] 31)).alloc (.cells #[.int .i64 (sv lb).sign, .slice Y dy.length cy] 31)).cell? ⟨w3.heap.size + 1, 0, none⟩ = some (.int .i64 (sv lb).sign) := by simp [go_sem]
  have F4 : ((w3.alloc (.cells #[.int .i64 (sv la).sign, .slice X dx.length cx] 31)).alloc (.cells #[.int .i64 (sv lb).sign, .slice Y dy.length cy] 31)).cell? ⟨w3.heap.size + 1, 1, none⟩ = some (.slice Y dy.length cy) := by simp [go_sem]
  have hx4 := hx3.next hnew
  have hy4 := hy3.next hnew
  have hwc := hw3'.trans (hnew.mono hw3'.size)
  clear hx hy hx3 hy3 hnew
  generalize ((w3.alloc (.cells #[.int .i64 (sv la).sign, .slice X dx.length cx] 31)).alloc (.cells #[.int .i64 (sv lb).sign, .slice Y dy.length cy] 31)) = wc at F1 F2 F3 F4 hx4 hy4 hwc ⊢
  have hwt := hw.below hwc
  have hac := ha.next hwc
  have hbc := hb.next hwc
  have BR := Below.refl wc.heap.size wc
  clear hb1 hw1 hb2 hb3 hw3'
  go_cut [37] (fun s37 wx => s37 = .bool false ∧ (wx.cell? ⟨w3.heap.size, 0, none⟩ = some (.int .i64 (sv la).sign) ∧ wx.cell? ⟨w3.heap.size, 1, none⟩ = some (.slice X dx.length cx)) ∧ Below wc.heap.size wc wx)
  case first =>
    go_region_held3 (fun w' => (w'.cell? ⟨w3.heap.size, 0, none⟩ = some (.int .i64 (sv la).sign) ∧ w'.cell? ⟨w3.heap.size, 1, none⟩ = some (.slice X dx.length cx)) ∧ (w'.cell? ⟨w3.heap.size + 1, 0, none⟩ = some (.int .i64 (sv lb).sign) ∧ w'.cell? ⟨w3.heap.size + 1, 1, none⟩ = some (.slice Y dy.length cy)) ∧ Below wc.heap.size wc w')
      (first | exact ⟨⟨F1, F2⟩, ⟨F3, F4⟩, Below.drew BR⟩ | exact keep4 (by assumption) (by assumption) | go_keep)
      (first
        | (go_at_call 20; refine (limbAdd_no A B c d la lb _ (hwt.below (by exact heldB (by assumption))) (hac.next (by exact heldB (by assumption))) (hbc.next (by exact heldB (by assumption))) hla6 hlb6 HNO.out).mono ?_; rintro e wA ⟨G, gc, rfl, hbA⟩)
        | (go_at_call 21; refine (r3add_any _ _ (sv la) (sv lb) 300 300 (fun _ => True) _ (hx4.next (by exact heldB (by assumption))) (hy4.next (by exact heldB (by assumption))) (by decide) (by decide) (fun _ _ => trivial)).mono ?_; rintro e wZ ⟨_, rfl, ⟨Z, zc, dz, rfl, hz⟩, hbZ⟩)
        | (go_at_call 22; refine (limbSub_no A B c d la lb _ (hwt.below (by exact heldB (by assumption))) (hac.next (by exact heldB (by assumption))) (hbc.next (by exact heldB (by assumption))) hla6 hlb6 HNO.out).mono ?_; rintro e wS ⟨G2, gc2, rfl, hbS⟩)
        | (go_at_call 23; refine (r3sub_any _ _ (sv la) (sv lb) 300 300 (fun _ => True) _ (hx4.next (by exact heldB (by assumption))) (hy4.next (by exact heldB (by assumption))) (by decide) (by decide) (fun _ _ => trivial)).mono ?_; rintro e wY ⟨_, rfl, ⟨Z2, zc2, dz2, rfl, hz2⟩, hbY⟩)
        | (go_at_call_of 19 (Value.slice G 0 gc); refine (binary_no G A B gc c d la.length lb.length _ _ _ _ _ _ HNP.out rfl).mono ?_; rintro e wB ⟨rfl, hbB⟩)
        | (go_at_call_of 19 (Value.slice G2 0 gc2); refine (binary_no G2 A B gc2 c d la.length lb.length _ _ _ _ _ _ HNP.out rfl).mono ?_; rintro e wC ⟨rfl, hbC⟩))
    all_goals (go_wp2_with (fail); go_meet; exact ⟨rfl, held5 (by assumption), heldB (by assumption)⟩)
  case rest =>
    rename_i wd
    obtain ⟨rfl, ⟨d0, d1⟩, hbd⟩ := hcut
    have hwt' := hwt.below hbd
    have hac' := hac.next hbd
    have hx5 := hx4.next hbd
    have hwd := hwc.trans (hbd.mono hwc.size)
    clear hwt hac hbc hx4 hy4 hwc F1 F2 F3 F4 BR hbd
    have BD := Below.refl wc.heap.size wc
    obtain ⟨y, hy⟩ : ∃ y, -sv la = y := ⟨_, rfl⟩
    have HY := Lib.hid hy
    clear hy
    go_wp2_with (fail)
    go_region_held3 (fun w' => (w'.cell? ⟨w3.heap.size, 0, none⟩ = some (.int .i64 (sv la).sign) ∧ w'.cell? ⟨w3.heap.size, 1, none⟩ = some (.slice X dx.length cx)) ∧ Below wc.heap.size wc w')
      (first | exact ⟨⟨d0, d1⟩, Below.drew BD⟩ | exact keep2 (by assumption) (by assumption) | go_keep)
      (first
        | (go_at_call 11; refine (alive3 _ (hwt'.below (by exact heldC (by assumption)))).mono ?_; rintro e wL ⟨rfl, hbL⟩)
        | (go_at_call 24; refine (limbNeg_no A c la _ (hwt'.below (by exact heldC (by assumption))) (hac'.next (by exact heldC (by assumption))) hla6 h18).mono ?_; rintro e wA ⟨G, gc, rfl, hbA⟩)
        | (go_at_call 25; refine (r3neg_c _ (sv la) y 300 (fun _ => True) _ (hx5.next (by exact heldC (by assumption))) HY.out).mono ?_; rintro e wZ ⟨_, rfl, ⟨Z, zc, dz, rfl, hz⟩, hbZ⟩)
        | (go_at_call 19; refine (binary_no G A A gc c c la.length la.length _ _ _ _ _ _ (by unfold Pair; omega) rfl).mono ?_; rintro e wB ⟨rfl, hbB⟩))
    all_goals (go_wp2; go_ret; exact ⟨rfl, hwd.trans (Below.mono (heldC (by assumption)) hwd.size)⟩)
set_option maxHeartbeats 1000000 in
theorem law_limbAdds (A B : Option Addr) (c d : Nat) (la lb : List Int) (w : World) (hw : Wts w) (ha : Arg w A c la) (hb : Arg w B d lb) :
    Calls Tryd.prog 4 #[.slice A la.length c, .slice B lb.length d] w fun e w' => e = .returned (.bool true) ∧ Below w.heap.size w w' := by
  have hb1 : Below w.heap.size w (w.alloc (.cells #[.slice A la.length c, .slice B lb.length d] 22)) := (Below.refl _ _).alloc (Nat.le_refl _) _
  have hw1 := hw.below hb1
  by_cases hlong : 50 < la.length ∨ 50 < lb.length
  · go_enter Tryd.func4, Tryd.ntmps4
    go_wp2_with (fail)
    refine (long2_yes _ la.length c lb.length d A B _ (by simp [go_sem]) (by simp [go_sem]) hlong).mono ?_
    rintro e w' ⟨rfl, rfl⟩
    go_wp2_with (fail)
    refine (alive3 _ hw1).mono ?_
    rintro e w2 ⟨rfl, hb2⟩
    go_wp2
    go_ret
    exact ⟨rfl, hb1.trans (hb2.mono hb1.size)⟩
  · by_cases hp : Pair la.length lb.length
    · exact law_limbAdds_yes A B c d la lb w hw ha hb hp.1 hp.2.1 hp.2.2
    · by_cases his : 1 ≤ la.length ∧ la.length ≤ 8
      · exact law_limbAdds_no_is A B c d la lb w hw ha hb his.1 his.2 (by omega) (by omega) hp
      · exact law_limbAdds_no_not A B c d la lb w hw ha hb (by omega) (by omega) (by omega) hp
end Go.Proofs.YtkdiglabjcfjfaaDoor
