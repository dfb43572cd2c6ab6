/-
  Layer 14: PolygonRotates. (Written by law14b.py.)
-/
import Derived.Test.YtkiecjacbfmblaaDoorLaw14
import Derived.Deep.DeepCutAuto
import Derived.Deep.CutRange
import Derived.Deep.Onto
import Derived.Deep.CutBlock
namespace Go.Proofs.YtkiecjacbfmblaaDoor
open Go.RowKit Go.Maps
set_option maxRecDepth 100000
set_option linter.unusedVariables false
set_option linter.unusedSimpArgs false

theorem RowR.dropP {α : Type} {C : α → List Value} {k : Nat} {w : World} {S : Nat → Prop} {b o : Nat} {l : List α} (h : RowR w S k C (some ⟨b, o, none⟩) l) (i : Nat) : RowR w S k C (some ⟨b, o + i * k, none⟩) (l.drop i) := fun hl => by
  obtain ⟨b', o', e, hS, hc⟩ := h (by rw [List.length_drop] at hl; omega)
  injection e with e
  injection e with e1 e2
  subst e1 e2
  refine ⟨b, o + i * k, rfl, hS, fun j x hx q u hu => ?_⟩
  rw [List.getElem?_drop] at hx
  have := hc _ x hx q u hu
  rw [← this]
  congr 2
  rw [Nat.add_mul]; omega
theorem PtLs.drew {w : World} {b o : Nat} {Ls : List (Option Addr × Nat × List Pt)} (h : PtLs w b o Ls) : PtLs w.drew b o Ls := ⟨fun j p hp => h.cell j p hp, fun p hp => ⟨(h.rows p hp).1, (h.rows p hp).2⟩⟩
theorem two_lsP {w : World} {b o : Nat} {l : List Pt} {i c : Nat} {t : TypeId} (h : RowR w (fun _ => True) 2 ptC (some ⟨b, o, none⟩) l) (hi : i ≤ l.length) :
    PtLs (w.alloc (.cells #[.slice (some ⟨b, o + i * 2, none⟩) (l.length - i) (c - i), .slice (some ⟨b, o, none⟩) i c] t)) w.heap.size 0 [(some ⟨b, o + i * 2, none⟩, c - i, l.drop i), (some ⟨b, o, none⟩, c, l.take i)] := by
  have hb : Below w.heap.size w (w.alloc (.cells #[.slice (some ⟨b, o + i * 2, none⟩) (l.length - i) (c - i), .slice (some ⟨b, o, none⟩) i c] t)) := (Below.refl _ _).alloc (Nat.le_refl _) _
  refine ⟨fun j p hp => ?_, fun p hp => ?_⟩
  · match j, hp with
    | 0, hp => simp at hp; subst hp; simp [go_sem]
    | 1, hp => simp at hp; subst hp; simp [go_sem, Nat.min_eq_left hi]
  · simp only [List.mem_cons, List.not_mem_nil, or_false] at hp
    rcases hp with rfl | rfl
    · exact ⟨(h.dropP i).next hb, fun e => by cases e⟩
    · exact ⟨(h.take i).next hb, fun e => by cases e⟩
theorem concatPt_m {A B : Option Addr} {cA cB c : Nat} {la lb M : List Pt} {b o : Nat} {w : World} (hM : M = la ++ lb) (h : PtLs w b o [(A, cA, la), (B, cB, lb)]) (ht : M.length ≤ 1000000) :
    Calls Tryd.prog 23 #[.slice (some ⟨b, o, none⟩) 2 c] w fun e w' => ∃ v, e = .returned v ∧ w'.ownsRow w.heap.size 31 2 v M.length (M.flatMap ptC) ∧ Below w.heap.size w w' := by
  have e : totPt [(A, cA, la), (B, cB, lb)] = M := by rw [hM]; unfold totPt; simp
  have := concatPt_any b o c [(A, cA, la), (B, cB, lb)] w h (by simp) (by simp) (by rw [e]; exact ht)
  rw [e] at this
  exact this
theorem ss_rot {l : List Pt} (h : SsP l) (i : Nat) : SsP (rot l i) := fun r hr => by
  unfold rot at hr
  rw [List.mem_append] at hr
  rcases hr with hr | hr
  · exact h r (List.mem_of_mem_drop hr)
  · exact h r (List.mem_of_mem_take hr)
theorem ss_rev {l : List Pt} (h : SsP l) : SsP l.reverse := fun r hr => h r (List.mem_reverse.1 hr)
theorem own_ptR {w : World} {base g c n : Nat} {l : List Pt} (hn : l.length = n) (h : w.ownsRow base 31 2 (.slice (some ⟨g, 0, none⟩) n c) n (l.flatMap ptC)) : RowR w (fun b => b = g) 2 ptC (some ⟨g, 0, none⟩) l := by
  subst hn
  obtain ⟨A, c', e, _, _, h2, _⟩ := own_rowR (C := ptC) (fun _ => rfl) h
  injection e with e
  rw [← e] at h2
  exact h2.imp fun b hb => by simp [Value.ownBlock] at hb; exact hb.symm
set_option maxHeartbeats 2000000 in
theorem law_polygonRotates (A : Option Addr) (c : Nat) (l : List Pt) (k : Int) (p : Pt) (w : World) (hw : Wts w) (ha : ArgP w A c l) (hlc : l.length ≤ c) (h0k : 0 ≤ k) (h1k : k < 256) (hp : S p.x ∧ S p.y) :
    Calls Tryd.prog 6 #[.slice A l.length c, .int .u8 k, .agg #[.int .i64 p.x, .int .i64 p.y]] w fun e w' => e = .returned (.bool true) ∧ Below w.heap.size w w' := by
  obtain ⟨W, hW⟩ : ∃ W, W = w.alloc (.cells #[.int .i64 p.x, .int .i64 p.y] 31) := ⟨_, rfl⟩
  obtain ⟨bx, hbx⟩ : ∃ bx, bx = w.heap.size := ⟨_, rfl⟩
  have h0 : Below w.heap.size w W := by rw [hW]; exact (Below.refl _ _).alloc (Nat.le_refl _) _
  have kx0 : W.cell? ⟨bx, 0, none⟩ = some (.int .i64 p.x) := by rw [hW, hbx]; simp [go_sem]
  have kx1 : W.cell? ⟨bx, 1, none⟩ = some (.int .i64 p.y) := by rw [hW, hbx]; simp [go_sem]
  have hbW : bx < W.heap.size := lt_of_cell kx0
  have HW := Lib.hid hW
  have HB := Lib.hid hbx
  have HP := Lib.hid hp
  clear hW hbx hp
  cases hq : isP l with
  | false =>
    have HQ := Lib.hid hq
    clear hq
    go_enter Tryd.func6, Tryd.ntmps6
    go_upto_region 1 with (fail)
    rw [← HW.out, ← HB.out]
    go_wp2_with (fail)
    refine (ref14Is_any A c _ l false _ rfl HQ.out).mono ?_
    rintro e w1 ⟨rfl, hw1⟩
    obtain rfl := hw1.symm
    go_wp2_with (fail)
    refine (alive14_any _ (hw.below h0)).mono ?_
    rintro e w2 ⟨rfl, hb⟩
    go_wp2
    go_ret
    exact ⟨rfl, h0.trans (hb.mono h0.size)⟩
  | true =>
    have hn := (isP_iff l).1 hq
    obtain ⟨b, o, rfl, _, _⟩ := ha.row (by omega)
    obtain ⟨i, hi⟩ : ∃ i : Nat, (i : Int) = k % (l.length : Int) := ⟨(k % (l.length : Int)).toNat, Int.toNat_of_nonneg (Int.emod_nonneg _ (by omega))⟩
    have hil : i < l.length := by have := Int.emod_lt_of_pos k (show (0 : Int) < l.length by omega); omega
    have hd2 : IntKind.i64.wrap (k % (l.length : Int)) = (i : Int) := by rw [← hi, wrap_s]; omega
    have hi2 : i ≤ l.length := by omega
    have hi3 : i ≤ c := by omega
    have hci : ¬ c = i := by omega
    have hl0 : ¬ l.length = 0 := by omega
    have HI := Lib.hid hi
    have HQ := Lib.hid hq
    have hrow := ha.row.next h0
    have hss := ha.ss
    obtain ⟨r, hr⟩ : ∃ r, validP l = r := ⟨_, rfl⟩
    have HR := Lib.hid hr
    clear hi hq hr
    go_enter Tryd.func6, Tryd.ntmps6
    go_upto_region 1 with (fail)
    rw [← HW.out, ← HB.out]
    go_wp2_with (fail)
    refine (ref14Is_any _ c _ l true _ rfl HQ.out).mono ?_
    rintro e w1 ⟨rfl, hw1⟩
    obtain rfl := hw1.symm
    go_upto_region 4 with (fail)
    rw [← HI.out]
    obtain ⟨M, hM⟩ : ∃ M, M = rot l i := ⟨_, rfl⟩
    have HM := Lib.hid hM
    have HML := Lib.hid (show M.length = l.length by rw [hM]; exact rot_len hi2)
    have key := concatPt_m (c := 2) (show M = l.drop i ++ l.take i from hM) (PtLs.drew (two_lsP (w := W) (c := c) (t := 22) hrow hi2)) (by rw [HML.out]; omega)
    have HSM := Lib.hid (show SsP M by rw [hM]; exact ss_rot ha.ss i)
    have HSX := Lib.hid (show SsP M.reverse by rw [hM]; exact ss_rev (ss_rot ha.ss i))
    have HVM := Lib.hid (show validP M = r by rw [hM, valid_rot hi2]; exact HR.out)
    have HVX := Lib.hid (show validP M.reverse = r by rw [valid_rev]; exact HVM.out)
    clear hM
    go_cut [8] from 21 to 28 (fun s wx => ∃ v, s = v ∧ wx.ownsRow W.heap.size 31 2 v M.length (M.flatMap ptC) ∧ Below W.heap.size W wx)
    case first =>
      go_region_law (first | (go_simp; refine key.mono ?_; rintro e w5 ⟨v5, rfl, hrow5, hb5⟩))
      all_goals go_wp2
      all_goals go_meet
      all_goals (have hbz : Below W.heap.size W ((W.alloc (.cells #[.slice (some ⟨b, o + i * 2, none⟩) (l.length - i) (c - i), .slice (some ⟨b, o, none⟩) i c] 22)).drew) := below_drewN' ((Below.refl _ _).alloc (Nat.le_refl _) _) 1)
      all_goals exact ⟨v5, rfl, hrow5.mono hbz.size, hbz.trans (hb5.mono hbz.size)⟩
    case rest =>
      obtain ⟨v5, rfl, hrow5, hb5⟩ := hcut
      have hml := HML.out
      obtain ⟨g5, c5, rfl, hg5, _⟩ := hrow5.form (by omega)
      have h5 := h0.trans (hb5.mono h0.size)
      rw [hml] at hrow5
      have hrM := own_ptR HML.out hrow5
      clear hml key hci hi2 hi3 hrow
      go_wp2_with (fail)
      rw [HML.out]
      refine (clonePt_any _ c5 l.length M _ wc hrM HML.out.symm (fun h => by cases h) (by omega)).mono ?_
      rintro e w6 ⟨v6, rfl, hrow6, hb6⟩
      have h6 := h5.trans (hb6.mono h5.size)
      rw [HML.out] at hrow6
      obtain ⟨g6, c6, rfl, hg6, _⟩ := hrow6.form (by omega)
      have hrM := hrM.next hb6
      go_wp2_with (fail)
      refine (reversePt_any wc.heap.size g6 l.length c6 M w6 hb6.size hg6 hrow6 HML.out (by omega) (by omega)).mono ?_
      rintro e w7 ⟨rfl, hrow7, hb7⟩
      have hb67 := hb6.trans hb7
      have h7 := h5.trans (hb67.mono h5.size)
      have HXL := Lib.hid (show M.reverse.length = l.length by rw [List.length_reverse, HML.out])
      have hrX := own_ptR HXL.out hrow7
      have hrM := own_ptR HML.out (row_keep hrow5 fun q hq => hb67.block q (hrow5.lt q hq).2)
      have d0 := ((hb5.trans (hb67.mono hb5.size)).cell (p := ⟨bx, 0, none⟩) hbW).trans kx0
      have d1 := ((hb5.trans (hb67.mono hb5.size)).cell (p := ⟨bx, 1, none⟩) hbW).trans kx1
      clear hrow5 hrow6 hrow7 kx0 kx1 hb67 hb6 hb7 hb5 hbW
      go_wp2_with (fail)
      refine (polyValid_n (hw.below h7) (ha.row.next h7) rfl (by omega) ha.ss HR.out).mono ?_
      rintro e w8 ⟨rfl, hb8⟩
      have h8 := h7.trans (hb8.mono h7.size)
      have hrX := hrX.next hb8
      have hrM := hrM.next hb8
      have d0 := (hb8.cell (p := ⟨bx, 0, none⟩) (lt_of_cell d0)).trans d0
      have d1 := (hb8.cell (p := ⟨bx, 1, none⟩) (lt_of_cell d1)).trans d1
      have hdm : (mk r != mk r) = false := bne_self_eq_false _
      go_wp2_with (fail)
      refine (polyValid_n (hw.below h8) hrM HML.out.symm (by omega) HSM.out HVM.out).mono ?_
      rintro e w9 ⟨rfl, hb9⟩
      have h9 := h8.trans (hb9.mono h8.size)
      have hrX := hrX.next hb9
      have hrM := hrM.next hb9
      have d0 := (hb9.cell (p := ⟨bx, 0, none⟩) (lt_of_cell d0)).trans d0
      have d1 := (hb9.cell (p := ⟨bx, 1, none⟩) (lt_of_cell d1)).trans d1
      go_wp2_with (fail)
      refine (polyValid_n (hw.below h9) hrX HXL.out.symm (by omega) HSX.out HVX.out).mono ?_
      rintro e wa ⟨rfl, hba⟩
      have ha2 := h9.trans (hba.mono h9.size)
      have hrX := hrX.next hba
      have hrM := hrM.next hba
      have d0 := (hba.cell (p := ⟨bx, 0, none⟩) (lt_of_cell d0)).trans d0
      have d1 := (hba.cell (p := ⟨bx, 1, none⟩) (lt_of_cell d1)).trans d1
      clear hb8 hb9 hba h7 h8 h9
      cases r with
      | false =>
        rw [show mk false = 0 from rfl] at *
        clear d0 d1 hrX hrM
        go_wp2_with (fail)
        refine (alive14_any _ (hw.below ha2)).mono ?_
        rintro e wb ⟨rfl, hb⟩
        go_wp2
        go_ret
        exact ⟨rfl, ha2.trans (hb.mono ha2.size)⟩
      | true =>
        rw [show mk true = 18446744073709551615 from rfl] at *
        have hil2 : i ≤ l.length := by omega
        obtain ⟨s, hs⟩ : ∃ s, locP l p = s := ⟨_, rfl⟩
        obtain ⟨q, hq⟩ : ∃ q, orP M = q := ⟨_, rfl⟩
        have hq1 := or_in M
        rw [hq] at hq1
        have HSL := Lib.hid hs
        have HLM := Lib.hid (show locP M p = s by rw [HM.out, loc_rot hil2 HR.out]; exact hs)
        have HLX := Lib.hid (show locP M.reverse p = s by rw [loc_rev HVM.out]; exact HLM.out)
        have HOM := Lib.hid hq
        obtain ⟨q', hq'⟩ : ∃ q', -q = q' := ⟨_, rfl⟩
        have hqn : wrap64 (-q) = q' := by rw [← hq']; exact IntWalk.wrap64_in _ (by omega)
        have HOX := Lib.hid (show orP M.reverse = q' by rw [or_rev HVM.out, hq, hq'])
        have hds : (s == s) = true := beq_self_eq_true _
        have hdq : (q' == q') = true := beq_self_eq_true _
        clear hs hq hq' hq1 hil2
        go_wp2_with (fail)
        refine (polyLocate_n (p := p) (hw.below ha2) (ha.row.next ha2) rfl (by omega) ha.ss HP.out HSL.out).mono ?_
        rintro e wb ⟨rfl, hbb⟩
        have hb2 := ha2.trans (hbb.mono ha2.size)
        have hrX := hrX.next hbb
        have hrM := hrM.next hbb
        have d0 := (hbb.cell (p := ⟨bx, 0, none⟩) (lt_of_cell d0)).trans d0
        have d1 := (hbb.cell (p := ⟨bx, 1, none⟩) (lt_of_cell d1)).trans d1
        go_wp2_with (fail)
        refine (alive14_any _ (hw.below hb2)).mono ?_
        rintro e wd ⟨rfl, hbd⟩
        have hd3 := hb2.trans (hbd.mono hb2.size)
        have hrX := hrX.next hbd
        have hrM := hrM.next hbd
        have d0 := (hbd.cell (p := ⟨bx, 0, none⟩) (lt_of_cell d0)).trans d0
        have d1 := (hbd.cell (p := ⟨bx, 1, none⟩) (lt_of_cell d1)).trans d1
        clear hbb ha2
        go_wp2_with (fail)
        refine (polyLocate_n (p := p) (hw.below hd3) hrM HML.out.symm (by omega) HSM.out HP.out HLM.out).mono ?_
        rintro e we ⟨rfl, hbe⟩
        have he := hd3.trans (hbe.mono hd3.size)
        have hrX := hrX.next hbe
        have hrM := hrM.next hbe
        have d0 := (hbe.cell (p := ⟨bx, 0, none⟩) (lt_of_cell d0)).trans d0
        have d1 := (hbe.cell (p := ⟨bx, 1, none⟩) (lt_of_cell d1)).trans d1
        clear hbd hb2
        go_wp2_with (fail)
        refine (polyLocate_n (p := p) (hw.below he) hrX HXL.out.symm (by omega) HSX.out HP.out HLX.out).mono ?_
        rintro e wf ⟨rfl, hbf⟩
        have hf := he.trans (hbf.mono he.size)
        have hrX := hrX.next hbf
        have hrM := hrM.next hbf
        clear d0 d1 hbe hd3
        go_wp2_with (fail)
        refine (polyOr_c _ _ _ _ q' _ _ (hw.below hf) hrX HXL.out.symm (by omega) HSX.out HOX.out).mono ?_
        rintro e wg ⟨rfl, hbg⟩
        have hg := hf.trans (hbg.mono hf.size)
        have hrM := hrM.next hbg
        go_wp2_with (fail)
        refine (polyOr_c _ _ _ _ q _ _ (hw.below hg) hrM HML.out.symm (by omega) HSM.out HOM.out).mono ?_
        rintro e wh ⟨rfl, hbh⟩
        go_wp2
        go_ret
        exact ⟨rfl, hg.trans (hbh.mono hg.size)⟩
end Go.Proofs.YtkiecjacbfmblaaDoor
