/-
  Packed texts: Ref18t, CodC, Law17, Law17h, Law18, Law18b, Wf, Tabs, Laid, Open16, Open17, Open18.
-/
import Derived.Lib.MinMax
import Derived.OpenShut
import Derived.Laws.Cover2
import Derived.Lib.LaidTab
import Derived.Test.YtcfdpimpleniaaaDoorRows
import Derived.LaidMore
import Derived.Stop.Joined
import Derived.Stop.LaidErr
import Derived.SizedLaws
import Derived.Test.YtcfdpimpleniaaaDoorP13
namespace Go.Proofs.YtcfdpimpleniaaaDoor
open Go.RowKit
set_option maxRecDepth 100000
set_option linter.unusedVariables false
set_option linter.unusedSimpArgs false

theorem wordAtB (A : Option Addr) (n c : Nat) (bs : List Int) (T : Nat → Prop) (at_ : Nat) (ai r : Int) (w : World) (hb : SlR w T .u8 A bs) (hn : n = bs.length) (hU : UB bs) (hl : n ≤ 9223372036854775807) (hai : ai = (at_ : Nat)) (ha : at_ + 8 ≤ n) (hr : wAt bs at_ = r) :
    Calls Tryd.prog 48 #[.slice A n c, .int .i64 ai] w fun e w' => e = .returned (.int .u64 r) ∧ Below w.heap.size w w' :=
  (ref18WordAt_any A n c bs T at_ ai r w hb hn hU hl hai ha hr).mono fun e w' ⟨h1, h2⟩ => ⟨h1, h2 ▸ Below.refl _ _⟩
def RdRel (W8 : World) (b8 : Nat) (bs : List Int) (P : Nat) (v cnt : Int) (i : Value) (wr : World) : Prop :=
  ∃ (j : Nat) (V : Value), i = .int .i64 j ∧ j ≤ P ∧ BoxT wr b8 (.int .i64 v) (.int .i64 cnt) V 55 ∧ wr.ownsRow W8.heap.size 101 2 V (listAt (rcAt bs) 4 j 9).length ((listAt (rcAt bs) 4 j 9).flatMap rcC) ∧ Moved (fun b => b = b8) W8 wr
set_option maxHeartbeats 8000000 in
theorem ref18Read_any (op vx pts : Int) (hA : Option Addr) (hn hc : Nat) (hrs : List Rg) (A : Option Addr) (n c : Nat) (bs : List Int) (a : An) (er : Int) (w : World)
    (hh : RowR w (fun g => g < w.heap.size) 3 rgC hA hrs) (hhn : hn = hrs.length) (hhl : hn ≤ 9223372036854775807)
    (hb : SlR w (fun g => g < w.heap.size) .u8 A bs) (hnb : n = bs.length) (hU : UB bs) (hl : n ≤ 9223372036854775807)
    (hr : readA ⟨op, vx, hrs.map rgK, pts⟩ (rgP hrs) bs = (a, er)) :
    Calls Tryd.prog 23 #[.agg #[.int .i64 op, .int .i64 vx, .slice hA hn hc, .int .i64 pts], .slice A n c] w (GivesA w a er) := by
  obtain ⟨W, hW⟩ : ∃ W, W = (w.alloc (.cells #[.int .i64 op, .int .i64 vx, .slice hA hn hc, .int .i64 pts] 24)).alloc (.cells #[.int .i64 0, .int .i64 0, .slice none 0 0] 55) := ⟨_, rfl⟩
  obtain ⟨b, hb0⟩ : ∃ b, b = w.heap.size := ⟨_, rfl⟩
  have h0 : Below w.heap.size w W := by rw [hW]; exact ((Below.refl _ _).alloc (Nat.le_refl _) _).alloc (by simp) _
  have hWs : W.heap.size = w.heap.size + 2 := by rw [hW]; simp
  have g0 : W.cell? ⟨b, 0, none⟩ = some (.int .i64 op) := by rw [hW, hb0]; simp [go_sem]
  have g1 : W.cell? ⟨b, 1, none⟩ = some (.int .i64 vx) := by rw [hW, hb0]; simp [go_sem]
  have g2 : W.cell? ⟨b, 2, none⟩ = some (.slice hA hn hc) := by rw [hW, hb0]; simp [go_sem]
  have g3 : W.cell? ⟨b, 3, none⟩ = some (.int .i64 pts) := by rw [hW, hb0]; simp [go_sem]
  have HRB := Lib.hid (show BoxT W (b + 1) (.int .i64 0) (.int .i64 0) (.slice none 0 0) 55 by
    rw [hW, hb0]; have := heap_alloc_new (w.alloc (.cells #[.int .i64 op, .int .i64 vx, .slice hA hn hc, .int .i64 pts] 24)) (.cells #[.int .i64 0, .int .i64 0, .slice none 0 0] 55); simpa [BoxT] using this)
  have hbW : b + 1 < W.heap.size := by omega
  have hbw : w.heap.size ≤ b + 1 := by omega
  obtain ⟨fe, hfe⟩ : ∃ fe, formErr ⟨op, vx, hrs.map rgK, pts⟩ (rgP hrs) = fe := ⟨_, rfl⟩
  have HFE := Lib.hid hfe
  have HHN := Lib.hid hhn
  have HN := Lib.hid hnb
  have HHW := Lib.hid (hh.next h0)
  have HSL := Lib.hid (hb.next h0)
  have HW := Lib.hid hW
  have HB := Lib.hid hb0
  have HR := Lib.hid hr
  clear hW hb0 hh hb hfe hr hhn hnb
  go_enter Tryd.func23, Tryd.ntmps23
  go_upto_region 1 with (fail)
  rw [← HW.out, ← HB.out]
  go_wp2_with (fail)
  refine (ref17Format_any op vx pts hA hn hc hrs fe _ W (HHW.out.imp fun g hg => by omega) HHN.out hhl HFE.out rfl).mono ?_
  rintro e w1 ⟨v1, rfl, hown1, hb1⟩
  clear hown1
  have hbx1 := HRB.out.same (hb1.block (b + 1) hbW)
  obtain ⟨⟨x0, x1, x2⟩, f0, f1, f2⟩ := hbx1.at_
  have hw1 := h0.trans (hb1.mono h0.size)
  have HBX := Lib.hid hbx1
  by_cases hf : fe = 0
  · subst hf
    obtain ⟨hk, hpf⟩ := formErr_ok.1 HFE.out
    have HK := Lib.hid hk
    clear hk hpf
    have HR2 := Lib.hid (show (if bs.length = 1 then (if 4 ≤ dgt bs 0 ∧ dgt bs 0 ≤ 8 then (⟨0, 0, []⟩, dgt bs 0) else (⟨0, 0, []⟩, 10)) else if (bs.length : Int) ≠ rspL ⟨op, vx, hrs.map rgK, pts⟩ then (⟨0, 0, []⟩, 8) else if dgt bs 0 = 0 ∧ isA ⟨op, vx, hrs.map rgK, pts⟩ (ansAt ⟨op, vx, hrs.map rgK, pts⟩ bs) = true then (ansAt ⟨op, vx, hrs.map rgK, pts⟩ bs, 0) else (⟨0, 0, []⟩, 10)) = (a, er) by
      rw [← HR.out]; unfold readA; rw [HFE.out]; exact (if_neg (show ¬ ((0 : Int) ≠ 0) by simp)).symm)
    by_cases h1 : n = 1
    · have hbl1 : bs.length = 1 := by rw [← HN.out]; exact h1
      have HR3 := Lib.hid HR2.out
      rw [if_pos hbl1] at HR3
      obtain ⟨pb, po, rfl, hTb, cw0⟩ := sl_lit HSL.out (show 0 < bs.length by omega)
      have c0 := keepW hb1 cw0
      rw [Nat.add_zero] at c0
      have hd := hU.dgt 0
      generalize dgt bs 0 = x at c0 hd HR3
      subst h1
      have e9 : IntKind.i64.wrap x = x := wrap_i64' (by omega) (by omega)
      have hntp : ¬ pb = b + 1 := by have hq : pb < w.heap.size := hTb; omega
      clear cw0 hbl1
      by_cases c1 : 4 ≤ x
      · have d1 : decide (4 ≤ x) = true := decide_eq_true c1
        by_cases c2 : x ≤ 8
        · have d2 : decide (x ≤ 8) = true := decide_eq_true c2
          have HX := Lib.hid (show a = ⟨0, 0, []⟩ ∧ er = x by have := HR3.out; rw [if_pos ⟨c1, c2⟩] at this; injection this with e1 e2; exact ⟨e1.symm, e2.symm⟩)
          clear c1 c2
          go_wp2
          refine dirP_plain (by kernel_rfl) (fun g => g = b + 1) 5 [] 6 [[], [], [(33, 1)], [(34, 2)], [(35, 3)], [(32, 0)], [(36, 4)]] [(32, 0), (33, 1), (34, 2), (35, 3), (36, 4)] [
              (fun z_ => z_ = .agg #[.int .i64 0, .int .i64 0, .slice none 0 0]),
              (fun z_ => z_ = .slice (some ⟨pb, po, none⟩) 1 c),
              (fun z_ => z_ = .pointer (some ⟨pb, po, none⟩)),
              (fun z_ => z_ = .int .u8 x),
              (fun z_ => z_ = .int .i64 x),
              (fun _ => True)
            ] [(fun _ _ => True), (fun _ _ => True), (fun _ _ => True), (fun _ _ => True), (fun _ _ => True), (fun _ _ => True)] (fun _ w' => BoxT w' (b + 1) (.int .i64 0) (.int .i64 0) (.slice none 0 0) 55)
            (by kernel_rfl) (by kernel_rfl) (by kernel_rfl) (by decide) ⟨fun _ _ _ h _ => h, fun _ _ _ h _ => h, fun _ _ _ h _ => h, fun _ _ _ h _ => h, fun _ _ _ h _ => h, fun _ _ _ h _ => h, trivial⟩ (BoxT.dst) ?steps (by decide) ?fin
          case steps =>
            refine ⟨?_, ?_, ?_, ?_, ?_, ?_, trivial⟩
            · intro vs g w2 hI hF hR K hK
              simp only [Facts, fill, Act.put, z1, z2, z3, z4, z5, Nat.reduceAdd] at hF hR hK ⊢
              go_simp
              exact hK _ _ _ (hI.step (by decide) (Below.refl _ _)) ⟨rfl, fun _ => Below.refl _ _⟩ ⟨updG_same _ _, rfl, fun _ => trivial, fun e => absurd e (by decide)⟩
            · intro vs g w2 hI hF hR K hK
              simp only [Facts, fill, Act.put, z1, z2, z3, z4, z5, Nat.reduceAdd] at hF hR hK ⊢
              go_simp
              exact hK _ _ _ (hI.step (by decide) (Below.refl _ _)) ⟨rfl, fun _ => Below.refl _ _⟩ ⟨updG_same _ _, rfl, fun _ => trivial, fun e => absurd e (by decide)⟩
            · intro vs g w2 hI hF hR K hK
              simp only [Facts, fill, Act.put, z1, z2, z3, z4, z5, Nat.reduceAdd] at hF hR hK ⊢
              obtain ⟨q1, -⟩ := hR
              have r1 : .slice (some ⟨pb, po, none⟩) 1 c = vs 1 := Eq.symm q1.val
              generalize vs 1 = x1 at *
              subst r1
              go_simp
              exact hK _ _ _ (hI.step (by decide) (Below.refl _ _)) ⟨rfl, fun _ => Below.refl _ _⟩ ⟨updG_same _ _, rfl, fun _ => trivial, fun e => absurd e (by decide)⟩
            · intro vs g w2 hI hF hR K hK
              simp only [Facts, fill, Act.put, z1, z2, z3, z4, z5, Nat.reduceAdd] at hF hR hK ⊢
              obtain ⟨q2, -⟩ := hR
              have r2 : .pointer (some ⟨pb, po, none⟩) = vs 2 := Eq.symm q2.val
              generalize vs 2 = x2 at *
              subst r2
              have k0 := (hI.moved.cell (lt_of_cell c0) hntp).trans c0
              go_simp
              exact hK _ _ _ (hI.step (by decide) (Below.refl _ _)) ⟨rfl, fun _ => Below.refl _ _⟩ ⟨updG_same _ _, rfl, fun _ => trivial, fun e => absurd e (by decide)⟩
            · intro vs g w2 hI hF hR K hK
              simp only [Facts, fill, Act.put, z1, z2, z3, z4, z5, Nat.reduceAdd] at hF hR hK ⊢
              obtain ⟨q3, -⟩ := hR
              have r3 : .int .u8 x = vs 3 := Eq.symm q3.val
              generalize vs 3 = x3 at *
              subst r3
              go_simp
              first
                | exact hK _ _ _ (hI.step (by decide) (Below.refl _ _)) ⟨rfl, fun _ => Below.refl _ _⟩ ⟨updG_same _ _, rfl, fun _ => trivial, fun e => absurd e (by decide)⟩
                | (rw [e9]; exact hK _ _ _ (hI.step (by decide) (Below.refl _ _)) ⟨rfl, fun _ => Below.refl _ _⟩ ⟨updG_same _ _, rfl, fun _ => trivial, fun e => absurd e (by decide)⟩)
            · intro vs g w2 hI hF hR K hK
              simp only [Facts, fill, Act.put, z1, z2, z3, z4, z5, Nat.reduceAdd] at hF hR hK ⊢
              obtain ⟨q0, -⟩ := hR
              have r0 : .agg #[.int .i64 0, .int .i64 0, .slice none 0 0] = vs 0 := Eq.symm q0.val
              generalize vs 0 = x0 at *
              subst r0
              have hB := hI.below hF
              have hbz := HBX.out.same (hB.block (b + 1) (by have := hb1.size; omega))
              obtain ⟨⟨z0, z1, z2⟩, u0, u1, u2⟩ := hbz.at_
              have HBZ := Lib.hid hbz
              clear hbz
              go_simp
              generalize hWf : ((w2.setCell ⟨b + 1, 0, none⟩ (.int .i64 0)).setCell ⟨b + 1, 1, none⟩ (.int .i64 0)).setCell ⟨b + 1, 2, none⟩ (.slice none 0 0) = Wf
              obtain ⟨hbq, hmq⟩ := HBZ.out.put3 hWf
              exact hK undef _ _ (hI.end_ (fun i hi => by cases hi) ((Moved.of_below hB).trans hmq)) ⟨rfl, fun e => absurd rfl e⟩ ⟨updG_same _ _, trivial, fun e => (by rw [updG_same] at e; cases e), fun _ => hbq⟩
          case fin =>
            intro vs w2 hm hpo hR
            have r4 : .int .i64 x = vs 4 := Eq.symm (hR 4 (by decide))
            simp only [fill, Act.put, z1, z2, z3, z4, z5] at ⊢
            clear hR
            generalize vs 4 = x4 at *
            generalize vs 5 = x5 at *
            subst r4
            obtain ⟨⟨y0, y1, y2⟩, _⟩ := BoxT.at_ hpo
            have hbf := hm.below hw1 (fun g hg => by omega) hw1.size
            refine wpOps_step rfl rfl ?_
            go_simp
            refine NoPanic.normal ?_
            go_wp2
            exact bodyPost_ret (v := .tuple #[.agg #[.int .i64 0, .int .i64 0, .slice none 0 0], .int .i64 x]) (by simp [results, Tryd.results23, go_sem, y0, y1, y2]) rfl (by rw [HX.out.2]; exact givesA_bad HX.out.1 hbf)
        · have d2 : decide (x ≤ 8) = false := decide_eq_false c2
          have HX := Lib.hid (show a = ⟨0, 0, []⟩ ∧ er = 10 by have := HR3.out; rw [if_neg (by omega)] at this; injection this with e1 e2; exact ⟨e1.symm, e2.symm⟩)
          clear c1 c2
          go_wp2
          generalize hWf : ((w1.setCell ⟨b + 1, 0, none⟩ (.int .i64 0)).setCell ⟨b + 1, 1, none⟩ (.int .i64 0)).setCell ⟨b + 1, 2, none⟩ (.slice none 0 0) = Wf
          obtain ⟨hbf, _, y0, y1, y2⟩ := fin3 HBX.out hw1 hbw hWf
          exact bodyPost_ret (v := .tuple #[.agg #[.int .i64 0, .int .i64 0, .slice none 0 0], .int .i64 10]) (by simp [results, Tryd.results23, go_sem, y0, y1, y2]) rfl (by rw [HX.out.2]; exact givesA_bad HX.out.1 hbf)
      · have d1 : decide (4 ≤ x) = false := decide_eq_false c1
        have HX := Lib.hid (show a = ⟨0, 0, []⟩ ∧ er = 10 by have := HR3.out; rw [if_neg (by omega)] at this; injection this with e1 e2; exact ⟨e1.symm, e2.symm⟩)
        clear c1
        go_wp2
        generalize hWf : ((w1.setCell ⟨b + 1, 0, none⟩ (.int .i64 0)).setCell ⟨b + 1, 1, none⟩ (.int .i64 0)).setCell ⟨b + 1, 2, none⟩ (.slice none 0 0) = Wf
        obtain ⟨hbf, _, y0, y1, y2⟩ := fin3 HBX.out hw1 hbw hWf
        exact bodyPost_ret (v := .tuple #[.agg #[.int .i64 0, .int .i64 0, .slice none 0 0], .int .i64 10]) (by simp [results, Tryd.results23, go_sem, y0, y1, y2]) rfl (by rw [HX.out.2]; exact givesA_bad HX.out.1 hbf)
    · have hbl1 : ¬ bs.length = 1 := by rw [← HN.out]; exact h1
      have HR3 := Lib.hid HR2.out
      rw [if_neg hbl1] at HR3
      have dn : ((n : Int) == 1) = false := by rw [beq_eq_false_iff_ne]; omega
      have j0 := keepW hb1 g0
      have j1 := keepW hb1 g1
      have j2 := keepW hb1 g2
      have j3 := keepW hb1 g3
      obtain ⟨rl, hrl⟩ : ∃ rl, rspL ⟨op, vx, hrs.map rgK, pts⟩ = rl := ⟨_, rfl⟩
      rw [hrl] at HR3
      have HRL := Lib.hid hrl
      clear h1 hbl1 hrl
      go_wp2_with (fail)
      refine (ref17Response_any op vx pts hA hn hc (hrs.map rgK) rl w1 HK.out HRL.out).mono ?_
      rintro e wq ⟨rfl, hb2⟩
      have hbw2 := hb1.trans (hb2.mono hb1.size)
      have hbx2 := HBX.out.same (hb2.block (b + 1) (Nat.lt_of_lt_of_le hbW hb1.size))
      have hw2 := hw1.trans (hb2.mono hw1.size)
      clear x0 x1 x2 f0 f1 f2 j0 j1 j2 j3 hbx1 HBX hb1 hb2 hw1
      obtain ⟨⟨x0, x1, x2⟩, f0, f1, f2⟩ := hbx2.at_
      have HBX := Lib.hid hbx2
      by_cases h2 : (n : Int) = rl
      · have dn2 : ((n : Int) != rl) = false := by rw [bne_eq_false_iff_eq]; exact h2
        have HR4 := Lib.hid HR3.out
        rw [if_neg (by rw [← HN.out]; exact Classical.not_not.2 h2)] at HR4
        have hop := HK.out.op
        simp only at hop
        have hrl : (op = 5 ∧ 1 ≤ pts ∧ pts ≤ 4096 ∧ (n : Int) = 4 + 9 * pts) ∨ (op ≠ 5 ∧ n = 2) := by
          have h9 := HRL.out
          unfold rspL at h9
          simp only at h9
          by_cases e5 : op = 5
          · rw [if_pos e5] at h9; have := HK.out.pts5 e5; simp only at this; exact .inl ⟨e5, this.1, this.2, by omega⟩
          · rw [if_neg e5] at h9; exact .inr ⟨e5, by omega⟩
        have HNL := Lib.hid (show 2 ≤ n by omega)
        obtain ⟨pb, po, rfl, hTb, _⟩ := sl_lit HSL.out (show 1 < bs.length by have := HNL.out; rw [← HN.out]; omega)
        have hTb2 : pb < w.heap.size := hTb
        have cw0 := sl_cell HSL.out (show 0 < bs.length by have := HNL.out; rw [← HN.out]; omega)
        have cw1 := sl_cell HSL.out (show 1 < bs.length by have := HNL.out; rw [← HN.out]; omega)
        have hd1 := hU.dgt 1
        have c1 := keepW hbw2 cw1
        have j0 := keepW hbw2 g0
        obtain ⟨v, hv⟩ : ∃ v, dgt bs 1 = v := ⟨_, rfl⟩
        rw [hv] at c1 hd1
        have HV := Lib.hid hv
        have ev : IntKind.i64.wrap v = v := wrap_i64' (by omega) (by omega)
        have hn1 : (1 : Int) < n := by have := HNL.out; omega
        obtain ⟨W8, hW8⟩ : ∃ W8, W8 = wq.alloc (.cells #[.int .i64 v, .int .i64 0, .slice none 0 0] 55) := ⟨_, rfl⟩
        obtain ⟨b8, hb8⟩ : ∃ b8, b8 = wq.heap.size := ⟨_, rfl⟩
        have hq8 : Below wq.heap.size wq W8 := by rw [hW8]; exact (Below.refl _ _).alloc (Nat.le_refl _) _
        have hbx8 : BoxT W8 b8 (.int .i64 v) (.int .i64 0) (.slice none 0 0) 55 := by rw [hW8, hb8]; exact heap_alloc_new wq _
        have hbW8 : Below W.heap.size W W8 := hbw2.trans (hq8.mono hbw2.size)
        have hWb8 : W.heap.size ≤ b8 := by rw [hb8]; exact hbw2.size
        have HW8 := Lib.hid hW8
        have HB8 := Lib.hid hb8
        have HHD := Lib.hid (And.intro g0 (And.intro g1 (And.intro g2 g3)))
        have HCW0 := Lib.hid cw0
        clear hW8 hb8 h2 hv cw1 cw0 hq8 hTb g0 g1 g2 g3 x0 x1 x2 f0 f1 f2 hbx2 HBX hbw2 hw2
        by_cases h5 : op = 5
        · subst h5
          obtain ⟨hp1, hp2, hn4⟩ : 1 ≤ pts ∧ pts ≤ 4096 ∧ (n : Int) = 4 + 9 * pts := by rcases hrl with h | h; exact h.2; exact absurd rfl h.1
          have HNP := Lib.hid hn4
          obtain ⟨P, hP⟩ : ∃ P : Nat, P = pts.toNat := ⟨_, rfl⟩
          have HPP := Lib.hid (show (P : Int) = pts by omega)
          have hpn : 4 + 9 * P = bs.length := by have := HN.out; omega
          have HPN := Lib.hid hpn
          have cw2 := sl_cell HSL.out (show 2 < bs.length by omega)
          have cw3 := sl_cell HSL.out (show 3 < bs.length by omega)
          have hd2 := hU.dgt 2
          have hd3 := hU.dgt 3
          have c2 := keepW hbW8 cw2
          have c3 := keepW hbW8 cw3
          obtain ⟨y2, hy2⟩ : ∃ y, dgt bs 2 = y := ⟨_, rfl⟩
          obtain ⟨y3, hy3⟩ : ∃ y, dgt bs 3 = y := ⟨_, rfl⟩
          rw [hy2] at c2 hd2
          rw [hy3] at c3 hd3
          have HY := Lib.hid (And.intro hy2 hy3)
          have ey2 : IntKind.i64.wrap y2 = y2 := wrap_i64' (by omega) (by omega)
          have ey3 : IntKind.i64.wrap y3 = y3 := wrap_i64' (by omega) (by omega)
          have em : IntKind.i64.wrap (256 * y3) = 256 * y3 := wrap_i64' (by omega) (by omega)
          have ea : IntKind.i64.wrap (y2 + 256 * y3) = y2 + 256 * y3 := wrap_i64' (by omega) (by omega)
          have hn3 : (3 : Int) < n ∧ (2 : Int) < n := by omega
          have hn2 := hn3.2
          have hn3 := hn3.1
          obtain ⟨⟨k0, k1, k2⟩, u0, u1, u2⟩ := hbx8.at_
          have HBX8 := Lib.hid hbx8
          clear hrl hn4 hP hpn cw2 cw3 hy2 hy3 hbx8
          go_upto_region 11 with (fail)
          rw [← HW8.out, ← HB8.out]
          have j0' := keepW hbW8 HHD.out.1
          clear j0 c1
          go_wp2
          refine dir_plain (by kernel_rfl) 11 [[], [(52, 0)], [(53, 1)], [(54, 2)], [], [(56, 4)], [(57, 5)], [(58, 6)], [(59, 7)], [(55, 3), (60, 8)], [], [(61, 9), (62, 10)]] [(52, 0), (53, 1), (54, 2), (55, 3), (56, 4), (57, 5), (58, 6), (59, 7), (60, 8), (61, 9), (62, 10)] [
              (fun v _ => v = .slice (some ⟨pb, po, none⟩) n c),
              (fun v _ => v = .pointer (some ⟨pb, po + 2, none⟩)),
              (fun v _ => v = .int .u8 y2),
              (fun v _ => v = .int .i64 y2),
              (fun v _ => v = .slice (some ⟨pb, po, none⟩) n c),
              (fun v _ => v = .pointer (some ⟨pb, po + 3, none⟩)),
              (fun v _ => v = .int .u8 y3),
              (fun v _ => v = .int .i64 y3),
              (fun v _ => v = .int .i64 (256 * y3)),
              (fun v _ => v = .int .i64 (y2 + 256 * y3)),
              (fun v _ => v = .pointer (some ⟨b8, 1, none⟩))
            ] (by kernel_rfl) (by kernel_rfl) (by kernel_rfl) (by decide) ⟨dstab_eq, dstab_eq, dstab_eq, dstab_eq, dstab_eq, dstab_eq, dstab_eq, dstab_eq, dstab_eq, dstab_eq, dstab_eq, trivial⟩ ?steps ?fin
          case steps =>
            refine ⟨?_, ?_, ?_, ?_, ?_, ?_, ?_, ?_, ?_, ?_, ?_, trivial⟩
            · intro vs g w2 hI hF hR K hK
              simp only [Facts, fill, Act.put, z1, z2, z3, z4, z5, Nat.reduceAdd] at hF hR hK ⊢
              go_simp
              exact hK _ () _ hI (Below.refl _ _) rfl
            · intro vs g w2 hI hF hR K hK
              simp only [Facts, fill, Act.put, z1, z2, z3, z4, z5, Nat.reduceAdd] at hF hR hK ⊢
              obtain ⟨r0, -⟩ := hR
              generalize vs 0 = x0 at *
              subst r0
              have hb9 := hn2
              go_simp
              exact hK _ () _ hI (Below.refl _ _) rfl
            · intro vs g w2 hI hF hR K hK
              simp only [Facts, fill, Act.put, z1, z2, z3, z4, z5, Nat.reduceAdd] at hF hR hK ⊢
              obtain ⟨r1, -⟩ := hR
              generalize vs 1 = x1 at *
              subst r1
              have k0 := (hI.cell (lt_of_cell c2)).trans c2
              go_simp
              exact hK _ () _ hI (Below.refl _ _) rfl
            · intro vs g w2 hI hF hR K hK
              simp only [Facts, fill, Act.put, z1, z2, z3, z4, z5, Nat.reduceAdd] at hF hR hK ⊢
              obtain ⟨r2, -⟩ := hR
              generalize vs 2 = x2 at *
              subst r2
              go_simp
              first
                | exact hK _ () _ hI (Below.refl _ _) rfl
                | (rw [ey2]; exact hK _ () _ hI (Below.refl _ _) rfl)
            · intro vs g w2 hI hF hR K hK
              simp only [Facts, fill, Act.put, z1, z2, z3, z4, z5, Nat.reduceAdd] at hF hR hK ⊢
              go_simp
              exact hK _ () _ hI (Below.refl _ _) rfl
            · intro vs g w2 hI hF hR K hK
              simp only [Facts, fill, Act.put, z1, z2, z3, z4, z5, Nat.reduceAdd] at hF hR hK ⊢
              obtain ⟨r4, -⟩ := hR
              generalize vs 4 = x4 at *
              subst r4
              have hb9 := hn3
              go_simp
              exact hK _ () _ hI (Below.refl _ _) rfl
            · intro vs g w2 hI hF hR K hK
              simp only [Facts, fill, Act.put, z1, z2, z3, z4, z5, Nat.reduceAdd] at hF hR hK ⊢
              obtain ⟨r5, -⟩ := hR
              generalize vs 5 = x5 at *
              subst r5
              have k0 := (hI.cell (lt_of_cell c3)).trans c3
              go_simp
              exact hK _ () _ hI (Below.refl _ _) rfl
            · intro vs g w2 hI hF hR K hK
              simp only [Facts, fill, Act.put, z1, z2, z3, z4, z5, Nat.reduceAdd] at hF hR hK ⊢
              obtain ⟨r6, -⟩ := hR
              generalize vs 6 = x6 at *
              subst r6
              go_simp
              first
                | exact hK _ () _ hI (Below.refl _ _) rfl
                | (rw [ey3]; exact hK _ () _ hI (Below.refl _ _) rfl)
            · intro vs g w2 hI hF hR K hK
              simp only [Facts, fill, Act.put, z1, z2, z3, z4, z5, Nat.reduceAdd] at hF hR hK ⊢
              obtain ⟨r7, -⟩ := hR
              generalize vs 7 = x7 at *
              subst r7
              go_simp
              first
                | exact hK _ () _ hI (Below.refl _ _) rfl
                | (rw [em]; exact hK _ () _ hI (Below.refl _ _) rfl)
            · intro vs g w2 hI hF hR K hK
              simp only [Facts, fill, Act.put, z1, z2, z3, z4, z5, Nat.reduceAdd] at hF hR hK ⊢
              obtain ⟨r3, r8, -⟩ := hR
              generalize vs 3 = x3, vs 8 = x8 at *
              subst r3 r8
              go_simp
              first
                | exact hK _ () _ hI (Below.refl _ _) rfl
                | (rw [ea]; exact hK _ () _ hI (Below.refl _ _) rfl)
            · intro vs g w2 hI hF hR K hK
              simp only [Facts, fill, Act.put, z1, z2, z3, z4, z5, Nat.reduceAdd] at hF hR hK ⊢
              go_simp
              exact hK _ () _ hI (Below.refl _ _) rfl
          case fin =>
            intro vs w2 hI hR
            have r9 := hR 9 (by decide)
            have r10 := hR 10 (by decide)
            simp only [fill, Act.put, z1, z2, z3, z4, z5] at r9 r10 ⊢
            clear hR
            generalize vs 9 = x9 at *
            generalize vs 10 = x10 at *
            subst r9 r10
            have hbz := HBX8.out.same (hI.block b8 (lt_of_cell k0))
            obtain ⟨⟨z0, z1, z2⟩, t0, t1, t2⟩ := hbz.at_
            have HBZ := Lib.hid hbz
            have hbWz := hbW8.trans (hI.mono hbW8.size)
            refine wpOps_step rfl rfl ?_
            go_simp
            obtain ⟨W9, hW9⟩ : ∃ W9, W9 = w2.setCell ⟨b8, 1, none⟩ (.int .i64 (y2 + 256 * y3)) := ⟨_, rfl⟩
            have hbx9 : BoxT W9 b8 (.int .i64 v) (.int .i64 (y2 + 256 * y3)) (.slice none 0 0) 55 := by rw [hW9]; exact (HBZ.out.set _).2.1
            have hbW9 : Below W.heap.size W W9 := by rw [hW9]; exact hbWz.setCell (p := ⟨b8, 1, none⟩) hWb8 _
            rw [← hW9]
            have hb9 := hbx9.lt
            refine NoPanic.normal ?_
            clear z0 z1 z2 t0 t1 t2 hbz HBZ hbWz hI hW9 k0 k1 k2 u0 u1 u2 c2 c3 HBX8 j0' hbW8 HW8 HB8
            generalize hcnt : y2 + 256 * y3 = cnt at *
            have HCNT := Lib.hid hcnt
            clear hcnt ey2 ey3 em ea
            go_wp2
            go_loopw [9] (fun i wr => RdRel W9 b8 bs P v cnt i wr) (fun i _ => P - (intOf i).toNat)
            case atStart => exact ⟨0, _, rfl, Nat.zero_le _, hbx9, World.ownsRow_nil _ _ _ _, Moved.refl _ _⟩
            case round =>
              clear hbx9
              obtain ⟨j, V, rfl, hj, hbx, hrow, hm⟩ := hrel
              have hbwr := hm.below hbW9 (fun g hg => by omega) hbW9.size
              have j3 := keepW hbwr HHD.out.2.2.2
              obtain ⟨⟨k0, k1, k2⟩, u0, u1, u2⟩ := hbx.at_
              have HBX := Lib.hid hbx
              have HROW := Lib.hid hrow
              have hlow : ∀ g, V.ownBlock = some g → W9.heap.size ≤ g := fun g hg => (World.ownsRow.lt HROW.out g hg).1
              clear hbx hrow
              by_cases hjp : j < P
              · have hjr : (j : Int) < pts := by have := HPP.out; omega
                have hjlt : 4 + 9 * j + 9 ≤ bs.length := by have := HPN.out; omega
                have hjn : 4 + 9 * (j : Int) + 9 ≤ n := by have := HN.out; omega
                have cx := keepW hbwr (sl_cell HSL.out (show 4 + 9 * j < bs.length by omega))
                have hdx := hU.dgt (4 + 9 * j)
                have HLS := Lib.hid (listAt_succ (rcAt bs) 4 j 9)
                have HLE := Lib.hid (listAt_len (rcAt bs) 4 j 9)
                obtain ⟨x, hx⟩ : ∃ x, dgt bs (4 + 9 * j) = x := ⟨_, rfl⟩
                rw [hx] at cx hdx
                obtain ⟨iv, hiv⟩ : ∃ iv, wAt bs (5 + 9 * j) = iv := ⟨_, rfl⟩
                have HIV := Lib.hid hiv
                have HX := Lib.hid (show rcAt bs (4 + j * 9) = ⟨x, iv⟩ by unfold rcAt; rw [show 4 + j * 9 = 4 + 9 * j by omega, hx, show 4 + 9 * j + 1 = 5 + 9 * j by omega, hiv])
                have q9 : IntKind.i64.wrap (9 * (j : Int)) = 9 * (j : Int) := wrap_i64' (by omega) (by omega)
                have q4 : IntKind.i64.wrap (4 + 9 * (j : Int)) = ((4 + 9 * j : Nat) : Int) := by rw [wrap_i64' (by omega) (by omega)]; omega
                have q5 : IntKind.i64.wrap (5 + 9 * (j : Int)) = ((5 + 9 * j : Nat) : Int) := by rw [wrap_i64' (by omega) (by omega)]; omega
                have qx : IntKind.u64.wrap x = x := wrap_u64' (by omega) (by omega)
                have hntb : ¬ V.ownBlock = some b8 := fun e => by have := hlow _ e; omega
                have hntp : ¬ V.ownBlock = some pb := fun e => by have := hlow _ e; have := hbW9.size; omega
                have hsl := HSL.out.next hbwr
                have hnS : ∀ g, g < w.heap.size → ¬ V.ownBlock = some g := fun g hg e => by have := hlow _ e; have := hbW9.size; omega
                have hrowj := HROW.out
                generalize listAt (rcAt bs) 4 j 9 = L at hrowj HLS HLE
                have hbs : W9.heap.size ≤ wr.heap.size := hm.size
                have HM0 := Lib.hid hm
                clear hx hiv hlow
                go_wp2
                refine dirP_plain (by kernel_rfl) (fun b => V.ownBlock = some b) 16 [15] 18 [[], [(69, 0)], [], [], [(72, 3)], [(73, 4)], [(71, 2), (74, 5)], [(75, 6)], [(76, 7)], [], [], [(79, 10)], [(80, 11)], [(78, 9), (81, 12)], [(77, 8), (82, 13)], [(83, 14)], [(70, 1), (84, 15)], [], [(85, 16), (86, 17)]] [(69, 0), (70, 1), (71, 2), (72, 3), (73, 4), (74, 5), (75, 6), (76, 7), (77, 8), (78, 9), (79, 10), (80, 11), (81, 12), (82, 13), (83, 14), (84, 15), (85, 16), (86, 17)] [
                    (fun z_ => z_ = .pointer (some ⟨b8, 2, none⟩)),
                    (fun z_ => z_ = V),
                    (fun z_ => z_ = .slice (some ⟨pb, po, none⟩) n c),
                    (fun z_ => z_ = .int .i64 j),
                    (fun z_ => z_ = .int .i64 (9 * (j : Int))),
                    (fun z_ => z_ = .int .i64 ((4 + 9 * j : Nat) : Int)),
                    (fun z_ => z_ = .pointer (some ⟨pb, po + (4 + 9 * j), none⟩)),
                    (fun z_ => z_ = .int .u8 x),
                    (fun z_ => z_ = .int .u64 x),
                    (fun z_ => z_ = .slice (some ⟨pb, po, none⟩) n c),
                    (fun z_ => z_ = .int .i64 j),
                    (fun z_ => z_ = .int .i64 (9 * (j : Int))),
                    (fun z_ => z_ = .int .i64 ((5 + 9 * j : Nat) : Int)),
                    (fun z_ => z_ = .int .u64 iv),
                    (fun z_ => z_ = .agg #[.int .u64 x, .int .u64 iv]),
                    (fun _ => True),
                    (fun _ => True),
                    (fun z_ => z_ = .pointer (some ⟨b8, 2, none⟩))
                  ] [(fun _ _ => True), (fun _ _ => True), (fun _ _ => True), (fun _ _ => True), (fun _ _ => True), (fun _ _ => True), (fun _ _ => True), (fun _ _ => True), (fun _ _ => True), (fun _ _ => True), (fun _ _ => True), (fun _ _ => True), (fun _ _ => True), (fun _ _ => True), (fun _ _ => True), (fun z_ w_ => ∃ g, z_ = .slice (some ⟨g, 0, none⟩) 1 1 ∧ RowR w_ (fun _ => True) 2 rcC (some ⟨g, 0, none⟩) [(⟨x, iv⟩ : Rc)]), (fun _ _ => True), (fun _ _ => True)] (fun v' w' => GrewC 101 2 rcC wr W9.heap.size V (L ++ [⟨x, iv⟩]) v' w')
                  (by kernel_rfl) (by kernel_rfl) (by kernel_rfl) (by decide) ⟨fun _ _ _ h _ => h, fun _ _ _ h _ => h, fun _ _ _ h _ => h, fun _ _ _ h _ => h, fun _ _ _ h _ => h, fun _ _ _ h _ => h, fun _ _ _ h _ => h, fun _ _ _ h _ => h, fun _ _ _ h _ => h, fun _ _ _ h _ => h, fun _ _ _ h _ => h, fun _ _ _ h _ => h, fun _ _ _ h _ => h, fun _ _ _ h _ => h, fun _ _ _ h _ => h, fun z_ w_ w2_ h hb => let ⟨g, h1, h2⟩ := h; ⟨g, h1, h2.next hb⟩, fun _ _ _ h _ => h, fun _ _ _ h _ => h, trivial⟩ (GrewC.dst) ?steps (by decide) ?fin
                case steps =>
                  refine ⟨?_, ?_, ?_, ?_, ?_, ?_, ?_, ?_, ?_, ?_, ?_, ?_, ?_, ?_, ?_, ?_, ?_, ?_, trivial⟩
                  · intro vs g w2 hI hF hR K hK
                    simp only [Facts, fill, Act.put, z1, z2, z3, z4, z5, Nat.reduceAdd] at hF hR hK ⊢
                    go_simp
                    exact hK _ _ _ (hI.step (by decide) (Below.refl _ _)) ⟨rfl, fun _ => Below.refl _ _⟩ ⟨updG_same _ _, rfl, fun _ => trivial, fun e => absurd e (by decide)⟩
                  · intro vs g w2 hI hF hR K hK
                    simp only [Facts, fill, Act.put, z1, z2, z3, z4, z5, Nat.reduceAdd] at hF hR hK ⊢
                    obtain ⟨q0, -⟩ := hR
                    have r0 : .pointer (some ⟨b8, 2, none⟩) = vs 0 := Eq.symm q0.val
                    generalize vs 0 = x0 at *
                    subst r0
                    have k0 := (hI.moved.cell (lt_of_cell k2) hntb).trans k2
                    go_simp
                    exact hK _ _ _ (hI.step (by decide) (Below.refl _ _)) ⟨rfl, fun _ => Below.refl _ _⟩ ⟨updG_same _ _, rfl, fun _ => trivial, fun e => absurd e (by decide)⟩
                  · intro vs g w2 hI hF hR K hK
                    simp only [Facts, fill, Act.put, z1, z2, z3, z4, z5, Nat.reduceAdd] at hF hR hK ⊢
                    go_simp
                    exact hK _ _ _ (hI.step (by decide) (Below.refl _ _)) ⟨rfl, fun _ => Below.refl _ _⟩ ⟨updG_same _ _, rfl, fun _ => trivial, fun e => absurd e (by decide)⟩
                  · intro vs g w2 hI hF hR K hK
                    simp only [Facts, fill, Act.put, z1, z2, z3, z4, z5, Nat.reduceAdd] at hF hR hK ⊢
                    go_simp
                    exact hK _ _ _ (hI.step (by decide) (Below.refl _ _)) ⟨rfl, fun _ => Below.refl _ _⟩ ⟨updG_same _ _, rfl, fun _ => trivial, fun e => absurd e (by decide)⟩
                  · intro vs g w2 hI hF hR K hK
                    simp only [Facts, fill, Act.put, z1, z2, z3, z4, z5, Nat.reduceAdd] at hF hR hK ⊢
                    obtain ⟨q3, -⟩ := hR
                    have r3 : .int .i64 j = vs 3 := Eq.symm q3.val
                    generalize vs 3 = x3 at *
                    subst r3
                    go_simp
                    first
                      | exact hK _ _ _ (hI.step (by decide) (Below.refl _ _)) ⟨rfl, fun _ => Below.refl _ _⟩ ⟨updG_same _ _, rfl, fun _ => trivial, fun e => absurd e (by decide)⟩
                      | (rw [q9]; exact hK _ _ _ (hI.step (by decide) (Below.refl _ _)) ⟨rfl, fun _ => Below.refl _ _⟩ ⟨updG_same _ _, rfl, fun _ => trivial, fun e => absurd e (by decide)⟩)
                  · intro vs g w2 hI hF hR K hK
                    simp only [Facts, fill, Act.put, z1, z2, z3, z4, z5, Nat.reduceAdd] at hF hR hK ⊢
                    obtain ⟨q4, -⟩ := hR
                    have r4 : .int .i64 (9 * (j : Int)) = vs 4 := Eq.symm q4.val
                    generalize vs 4 = x4 at *
                    subst r4
                    go_simp
                    first
                      | exact hK _ _ _ (hI.step (by decide) (Below.refl _ _)) ⟨rfl, fun _ => Below.refl _ _⟩ ⟨updG_same _ _, rfl, fun _ => trivial, fun e => absurd e (by decide)⟩
                      | (rw [q4]; exact hK _ _ _ (hI.step (by decide) (Below.refl _ _)) ⟨rfl, fun _ => Below.refl _ _⟩ ⟨updG_same _ _, rfl, fun _ => trivial, fun e => absurd e (by decide)⟩)
                  · intro vs g w2 hI hF hR K hK
                    simp only [Facts, fill, Act.put, z1, z2, z3, z4, z5, Nat.reduceAdd] at hF hR hK ⊢
                    obtain ⟨q2, q5, -⟩ := hR
                    have r2 : .slice (some ⟨pb, po, none⟩) n c = vs 2 := Eq.symm q2.val
                    have r5 : .int .i64 ((4 + 9 * j : Nat) : Int) = vs 5 := Eq.symm q5.val
                    generalize vs 2 = x2, vs 5 = x5 at *
                    subst r2 r5
                    go_simp
                    rw [if_pos (show 0 ≤ 4 + 9 * (j : Int) ∧ 4 + 9 * (j : Int) < n by omega), show (4 + 9 * (j : Int)).toNat = 4 + 9 * j by omega]
                    exact hK _ _ _ (hI.step (by decide) (Below.refl _ _)) ⟨rfl, fun _ => Below.refl _ _⟩ ⟨updG_same _ _, rfl, fun _ => trivial, fun e => absurd e (by decide)⟩
                  · intro vs g w2 hI hF hR K hK
                    simp only [Facts, fill, Act.put, z1, z2, z3, z4, z5, Nat.reduceAdd] at hF hR hK ⊢
                    obtain ⟨q6, -⟩ := hR
                    have r6 : .pointer (some ⟨pb, po + (4 + 9 * j), none⟩) = vs 6 := Eq.symm q6.val
                    generalize vs 6 = x6 at *
                    subst r6
                    have k0 := (hI.moved.cell (lt_of_cell cx) hntp).trans cx
                    go_simp
                    exact hK _ _ _ (hI.step (by decide) (Below.refl _ _)) ⟨rfl, fun _ => Below.refl _ _⟩ ⟨updG_same _ _, rfl, fun _ => trivial, fun e => absurd e (by decide)⟩
                  · intro vs g w2 hI hF hR K hK
                    simp only [Facts, fill, Act.put, z1, z2, z3, z4, z5, Nat.reduceAdd] at hF hR hK ⊢
                    obtain ⟨q7, -⟩ := hR
                    have r7 : .int .u8 x = vs 7 := Eq.symm q7.val
                    generalize vs 7 = x7 at *
                    subst r7
                    go_simp
                    first
                      | exact hK _ _ _ (hI.step (by decide) (Below.refl _ _)) ⟨rfl, fun _ => Below.refl _ _⟩ ⟨updG_same _ _, rfl, fun _ => trivial, fun e => absurd e (by decide)⟩
                      | (rw [qx]; exact hK _ _ _ (hI.step (by decide) (Below.refl _ _)) ⟨rfl, fun _ => Below.refl _ _⟩ ⟨updG_same _ _, rfl, fun _ => trivial, fun e => absurd e (by decide)⟩)
                  · intro vs g w2 hI hF hR K hK
                    simp only [Facts, fill, Act.put, z1, z2, z3, z4, z5, Nat.reduceAdd] at hF hR hK ⊢
                    go_simp
                    exact hK _ _ _ (hI.step (by decide) (Below.refl _ _)) ⟨rfl, fun _ => Below.refl _ _⟩ ⟨updG_same _ _, rfl, fun _ => trivial, fun e => absurd e (by decide)⟩
                  · intro vs g w2 hI hF hR K hK
                    simp only [Facts, fill, Act.put, z1, z2, z3, z4, z5, Nat.reduceAdd] at hF hR hK ⊢
                    go_simp
                    exact hK _ _ _ (hI.step (by decide) (Below.refl _ _)) ⟨rfl, fun _ => Below.refl _ _⟩ ⟨updG_same _ _, rfl, fun _ => trivial, fun e => absurd e (by decide)⟩
                  · intro vs g w2 hI hF hR K hK
                    simp only [Facts, fill, Act.put, z1, z2, z3, z4, z5, Nat.reduceAdd] at hF hR hK ⊢
                    obtain ⟨q10, -⟩ := hR
                    have r10 : .int .i64 j = vs 10 := Eq.symm q10.val
                    generalize vs 10 = x10 at *
                    subst r10
                    go_simp
                    first
                      | exact hK _ _ _ (hI.step (by decide) (Below.refl _ _)) ⟨rfl, fun _ => Below.refl _ _⟩ ⟨updG_same _ _, rfl, fun _ => trivial, fun e => absurd e (by decide)⟩
                      | (rw [q9]; exact hK _ _ _ (hI.step (by decide) (Below.refl _ _)) ⟨rfl, fun _ => Below.refl _ _⟩ ⟨updG_same _ _, rfl, fun _ => trivial, fun e => absurd e (by decide)⟩)
                  · intro vs g w2 hI hF hR K hK
                    simp only [Facts, fill, Act.put, z1, z2, z3, z4, z5, Nat.reduceAdd] at hF hR hK ⊢
                    obtain ⟨q11, -⟩ := hR
                    have r11 : .int .i64 (9 * (j : Int)) = vs 11 := Eq.symm q11.val
                    generalize vs 11 = x11 at *
                    subst r11
                    go_simp
                    first
                      | exact hK _ _ _ (hI.step (by decide) (Below.refl _ _)) ⟨rfl, fun _ => Below.refl _ _⟩ ⟨updG_same _ _, rfl, fun _ => trivial, fun e => absurd e (by decide)⟩
                      | (rw [q5]; exact hK _ _ _ (hI.step (by decide) (Below.refl _ _)) ⟨rfl, fun _ => Below.refl _ _⟩ ⟨updG_same _ _, rfl, fun _ => trivial, fun e => absurd e (by decide)⟩)
                  · intro vs g w2 hI hF hR K hK
                    simp only [Facts, fill, Act.put, z1, z2, z3, z4, z5, Nat.reduceAdd] at hF hR hK ⊢
                    obtain ⟨q9, q12, -⟩ := hR
                    have r9 : .slice (some ⟨pb, po, none⟩) n c = vs 9 := Eq.symm q9.val
                    have r12 : .int .i64 ((5 + 9 * j : Nat) : Int) = vs 12 := Eq.symm q12.val
                    generalize vs 9 = x9, vs 12 = x12 at *
                    subst r9 r12
                    go_simp
                    refine (wordAtB (some ⟨pb, po, none⟩) n c bs _ (5 + 9 * j) _ iv _ (hsl.keep (fun b o hS hlt => hI.moved.cell (p := ⟨b, o, none⟩) hlt (hnS b hS))) HN.out hU hl rfl (by have := HN.out; omega) HIV.out).mono ?_
                    rintro e w3 ⟨rfl, hb⟩
                    exact hK _ _ _ (hI.step (by decide) hb) ⟨rfl, fun _ => hb⟩ ⟨updG_same _ _, rfl, fun _ => trivial, fun e => absurd e (by decide)⟩
                  · intro vs g w2 hI hF hR K hK
                    simp only [Facts, fill, Act.put, z1, z2, z3, z4, z5, Nat.reduceAdd] at hF hR hK ⊢
                    obtain ⟨q8, q13, -⟩ := hR
                    have r8 : .int .u64 x = vs 8 := Eq.symm q8.val
                    have r13 : .int .u64 iv = vs 13 := Eq.symm q13.val
                    generalize vs 8 = x8, vs 13 = x13 at *
                    subst r8 r13
                    go_simp
                    exact hK _ _ _ (hI.step (by decide) (Below.refl _ _)) ⟨rfl, fun _ => Below.refl _ _⟩ ⟨updG_same _ _, rfl, fun _ => trivial, fun e => absurd e (by decide)⟩
                  · intro vs g w2 hI hF hR K hK
                    simp only [Facts, fill, Act.put, z1, z2, z3, z4, z5, Nat.reduceAdd] at hF hR hK ⊢
                    obtain ⟨q14, -⟩ := hR
                    have r14 : .agg #[.int .u64 x, .int .u64 iv] = vs 14 := Eq.symm q14.val
                    generalize vs 14 = x14 at *
                    subst r14
                    have hb : Below w2.heap.size w2 (w2.alloc (.cells #[.int .u64 x, .int .u64 iv] 101)) := (Below.refl _ _).alloc (Nat.le_refl _) _
                    go_simp
                    exact hK _ _ _ (hI.step (by decide) hb) ⟨rfl, fun _ => hb⟩ ⟨updG_same _ _, trivial, fun _ => ⟨_, rfl, (row_lit (C := rcC) rcC_len [(⟨x, iv⟩ : Rc)]).imp fun _ _ => trivial⟩, fun e => absurd e (by decide)⟩
                  · intro vs g w2 hI hF hR K hK
                    simp only [Facts, fill, Act.put, z1, z2, z3, z4, z5, Nat.reduceAdd] at hF hR hK ⊢
                    obtain ⟨q1, q15, -⟩ := hR
                    have r1 : V = vs 1 := Eq.symm q1.val
                    generalize vs 1 = x1, vs 15 = x15 at *
                    subst r1
                    have hB := hI.below hF
                    obtain ⟨gl, rfl, hrl⟩ := q15.raw hF
                    rw [if_pos (by rfl)]
                    refine op_grow elemRc _ _ rfl W9.heap.size V L rfl (row_keep hrowj fun g hg => hB.block g (World.ownsRow.lt hrowj g hg).2) ⟨gl, 0, none⟩ ⟨x, iv⟩ _ rfl hrl (by have := HLE.out; omega) (Nat.le_trans hbs hB.size) ?_
                    intro v' w3 hg0
                    have hg := GrewC.ahead hB hg0
                    exact hK _ _ _ (hI.end_ (fun i hi => by simp at hi; subst hi; exact q15.up) hg.moved) ⟨rfl, fun e => absurd rfl e⟩ ⟨updG_same _ _, trivial, fun e => (by rw [updG_same] at e; cases e), fun _ => hg⟩
                  · intro vs g w2 hI hF hR K hK
                    simp only [Facts, fill, Act.put, z1, z2, z3, z4, z5, Nat.reduceAdd] at hF hR hK ⊢
                    go_simp
                    exact hK _ _ _ (hI.step (by decide) (Below.refl _ _)) ⟨rfl, fun _ => Below.refl _ _⟩ ⟨updG_same _ _, rfl, fun _ => trivial, fun e => absurd e (by decide)⟩
                case fin =>
                  intro vs w2 hm hpo hR
                  have r17 : .pointer (some ⟨b8, 2, none⟩) = vs 17 := Eq.symm (hR 17 (by decide))
                  simp only [fill, Act.put, z1, z2, z3, z4, z5] at ⊢
                  clear hR
                  generalize vs 17 = x17 at *
                  generalize vs 16 = x16 at *
                  subst r17
                  have hbz := HBX.out.same (hm.block b8 (lt_of_cell k0) hntb)
                  obtain ⟨⟨z0, z1, z2⟩, t0, t1, t2⟩ := hbz.at_
                  have HBZ := Lib.hid hbz
                  obtain ⟨A6, m6, c6, h6⟩ : ∃ A m c, x16 = .slice A m c := by obtain ⟨A, c, e, _⟩ := own_rowR (C := rcC) rcC_len hpo.row; exact ⟨_, _, _, e⟩
                  subst h6
                  refine wpOps_step rfl rfl ?_
                  go_simp
                  have hbx10 := (HBZ.out.set (.slice A6 m6 c6)).2.2
                  have hne : ∀ g, (Value.slice A6 m6 c6).ownBlock = some g → g ≠ b8 := fun g hg e => by rcases hpo.own g hg with h | h; exact hntb (e ▸ h); have := lt_of_cell k0; omega
                  have hrow10 := row_keep (w' := w2.setCell ⟨b8, 2, none⟩ (.slice A6 m6 c6)) hpo.row fun g hg => Below.heap_setCell _ _ _ _ (hne g hg)
                  have hm10 : Moved (fun g => g = b8) W9 (w2.setCell ⟨b8, 2, none⟩ (.slice A6 m6 c6)) := (moved_rows HM0.out hm (fun g hg => (World.ownsRow.lt hrowj g hg).1)).trans moved_one
                  rw [← HX.out, ← HLS.out] at hrow10
                  refine NoPanic.normal ?_
                  go_wp2
                  go_roundw
                  case rel => exact ⟨j + 1, (.slice A6 m6 c6), by go_num, by omega, hbx10, hrow10, hm10⟩
                  case measure => simp [intOf]; omega
              · have hjr : ¬ ((j : Int) < pts) := by have := HPP.out; omega
                have hjP : j = P := by omega
                subst hjP
                obtain ⟨m, V2, c2, hV, hm2, hrowR⟩ : ∃ (m : Nat) (V2 : Option Addr) (c2 : Nat), V = .slice V2 m c2 ∧ m = (listAt (rcAt bs) 4 j 9).length ∧ RowR wr (fun g => W.heap.size ≤ g) 2 rcC V2 (listAt (rcAt bs) 4 j 9) := by
                  obtain ⟨A2, c2, e1, _, _, h3, _⟩ := own_rowR (C := rcC) rcC_len HROW.out
                  exact ⟨_, A2, c2, e1, rfl, h3.imp fun g hg => by have := hlow g hg; have := hbW9.size; omega⟩
                subst hV
                have HAN := Lib.hid (show ansAt ⟨5, vx, hrs.map rgK, pts⟩ bs = ⟨v, cnt, listAt (rcAt bs) 4 j 9⟩ by
                  unfold ansAt
                  simp only [if_true, HV.out, HY.out.1, HY.out.2, HCNT.out]
                  rw [show pts.toNat = j by have := HPP.out; omega])
                have HM2 := Lib.hid hm2
                have hml2 : m ≤ 9223372036854775807 := by rw [hm2, listAt_len]; have := HPP.out; omega
                have hwr := h0.trans (hbwr.mono h0.size)
                generalize listAt (rcAt bs) 4 j 9 = L at HAN HM2 hrowR
                clear hm2 HROW hlow hj hjp j3
                have hx0 := hU.dgt 0
                have cz := keepW hbwr HCW0.out
                rw [Nat.add_zero] at cz
                obtain ⟨x, hx⟩ : ∃ x, dgt bs 0 = x := ⟨_, rfl⟩
                rw [hx] at cz hx0
                have HX0 := Lib.hid hx
                clear hx
                have i0 := keepW hbwr HHD.out.1
                have i1 := keepW hbwr HHD.out.2.1
                have i2 := keepW hbwr HHD.out.2.2.1
                have i3 := keepW hbwr HHD.out.2.2.2
                have HRBX := Lib.hid (HRB.out.same (hbwr.block (b + 1) hbW))
                obtain ⟨⟨x0, x1, x2⟩, f0, f1, f2⟩ := HRBX.out.at_
                have hbb8 : b + 1 ≠ b8 := by omega
                by_cases hz : x = 0
                · have dz : (x != 0) = false := by rw [bne_eq_false_iff_eq]; exact hz
                  obtain ⟨q, hq⟩ : ∃ q, isA ⟨5, vx, hrs.map rgK, pts⟩ ⟨v, cnt, L⟩ = q := ⟨_, rfl⟩
                  have HQ := Lib.hid hq
                  clear hq
                  have HE := Lib.hid (show (a, er) = if q = true then ((⟨v, cnt, L⟩ : An), (0 : Int)) else (⟨0, 0, []⟩, 10) by rw [← HR4.out, HX0.out, HAN.out, HQ.out]; simp [hz])
                  clear hz
                  go_wp2_with (fail)
                  refine (ref18Is_any 5 vx pts hA hn hc (hrs.map rgK) v cnt V2 m c2 L q _ wr hop hrowR HM2.out hml2 HQ.out).mono ?_
                  rintro e wz ⟨rfl, hbz⟩
                  have hwz := hwr.trans (hbz.mono hwr.size)
                  have HRZ := Lib.hid (HRBX.out.same (hbz.block (b + 1) (lt_of_cell x0)))
                  have kk0 := (hbz.cell (lt_of_cell k0)).trans k0
                  have kk1 := (hbz.cell (lt_of_cell k1)).trans k1
                  have kk2 := (hbz.cell (lt_of_cell k2)).trans k2
                  clear x0 x1 x2 f0 f1 f2 k0 k1 k2 u0 u1 u2
                  obtain ⟨⟨x0, x1, x2⟩, f0, f1, f2⟩ := HRZ.out.at_
                  cases q with
                  | true =>
                    have HX := Lib.hid (show a = ⟨v, cnt, L⟩ ∧ er = 0 by have := HE.out; rw [if_pos rfl] at this; injection this with e1 e2; exact ⟨e1, e2⟩)
                    have HRR := Lib.hid (hrowR.next hbz)
                    go_wp2
                    generalize hWf : ((wz.setCell ⟨b + 1, 0, none⟩ (.int .i64 v)).setCell ⟨b + 1, 1, none⟩ (.int .i64 cnt)).setCell ⟨b + 1, 2, none⟩ (.slice V2 m c2) = Wf
                    obtain ⟨hbf, hoth, y0, y1, y2⟩ := fin3 HRZ.out hwz hbw hWf
                    exact bodyPost_ret (v := .tuple #[.agg #[.int .i64 v, .int .i64 cnt, .slice V2 m c2], .int .i64 0]) (by simp [results, Tryd.results23, go_sem, y0, y1, y2]) rfl (by rw [HX.out.2, HX.out.1]; exact ⟨_, _, _, rfl, HM2.out, (HRR.out.keep fun g hg _ => hoth g (by have hg2 : W.heap.size ≤ g := hg; omega)).imp fun g hg => by have hg2 : W.heap.size ≤ g := hg; omega, hbf⟩)
                  | false =>
                    have HX := Lib.hid (show a = ⟨0, 0, []⟩ ∧ er = 10 by have := HE.out; rw [if_neg (by simp)] at this; injection this with e1 e2; exact ⟨e1, e2⟩)
                    go_wp2
                    generalize hWf : ((wz.setCell ⟨b + 1, 0, none⟩ (.int .i64 0)).setCell ⟨b + 1, 1, none⟩ (.int .i64 0)).setCell ⟨b + 1, 2, none⟩ (.slice none 0 0) = Wf
                    obtain ⟨hbf, _, y0, y1, y2⟩ := fin3 HRZ.out hwz hbw hWf
                    exact bodyPost_ret (v := .tuple #[.agg #[.int .i64 0, .int .i64 0, .slice none 0 0], .int .i64 10]) (by simp [results, Tryd.results23, go_sem, y0, y1, y2]) rfl (by rw [HX.out.2]; exact givesA_bad HX.out.1 hbf)
                · have dz : (x != 0) = true := by rw [bne_iff_ne]; exact hz
                  have HX := Lib.hid (show a = ⟨0, 0, []⟩ ∧ er = 10 by have := HR4.out; rw [HX0.out, if_neg (fun h => hz h.1)] at this; injection this with e1 e2; exact ⟨e1.symm, e2.symm⟩)
                  clear hz
                  go_wp2
                  generalize hWf : ((wr.setCell ⟨b + 1, 0, none⟩ (.int .i64 0)).setCell ⟨b + 1, 1, none⟩ (.int .i64 0)).setCell ⟨b + 1, 2, none⟩ (.slice none 0 0) = Wf
                  obtain ⟨hbf, _, y0, y1, y2⟩ := fin3 HRBX.out hwr hbw hWf
                  exact bodyPost_ret (v := .tuple #[.agg #[.int .i64 0, .int .i64 0, .slice none 0 0], .int .i64 10]) (by simp [results, Tryd.results23, go_sem, y0, y1, y2]) rfl (by rw [HX.out.2]; exact givesA_bad HX.out.1 hbf)
        · have hn2e : n = 2 := by rcases hrl with h | h; exact absurd h.1 h5; exact h.2
          have d5 : (op == 5) = false := by rw [beq_eq_false_iff_ne]; exact h5
          have HAN := Lib.hid (show ansAt ⟨op, vx, hrs.map rgK, pts⟩ bs = ⟨v, 0, []⟩ by unfold ansAt; simp only [if_neg h5, HV.out])
          obtain ⟨⟨k0, k1, k2⟩, u0, u1, u2⟩ := hbx8.at_
          have j0' := keepW hbW8 HHD.out.1
          have hwr := h0.trans (hbW8.mono h0.size)
          have hbwr := hbW8
          have HBX := Lib.hid hbx8
          have hrowR : RowR W8 (fun g => W.heap.size ≤ g) 2 rcC none [] := RowR.nil_ _ _ _
          have HM2 := Lib.hid (show 0 = ([] : List Rc).length from rfl)
          have hml2 : 0 ≤ 9223372036854775807 := by omega
          clear hrl hbx8 hbW8 j0
          go_upto_region 11 with (fail)
          rw [← HW8.out, ← HB8.out]
          clear HW8 HB8 c1
          have hx0 := hU.dgt 0
          have cz := keepW hbwr HCW0.out
          rw [Nat.add_zero] at cz
          obtain ⟨x, hx⟩ : ∃ x, dgt bs 0 = x := ⟨_, rfl⟩
          rw [hx] at cz hx0
          have HX0 := Lib.hid hx
          clear hx
          have i0 := keepW hbwr HHD.out.1
          have i1 := keepW hbwr HHD.out.2.1
          have i2 := keepW hbwr HHD.out.2.2.1
          have i3 := keepW hbwr HHD.out.2.2.2
          have HRBX := Lib.hid (HRB.out.same (hbwr.block (b + 1) hbW))
          obtain ⟨⟨x0, x1, x2⟩, f0, f1, f2⟩ := HRBX.out.at_
          have hbb8 : b + 1 ≠ b8 := by omega
          by_cases hz : x = 0
          · have dz : (x != 0) = false := by rw [bne_eq_false_iff_eq]; exact hz
            obtain ⟨q, hq⟩ : ∃ q, isA ⟨op, vx, hrs.map rgK, pts⟩ ⟨v, 0, []⟩ = q := ⟨_, rfl⟩
            have HQ := Lib.hid hq
            clear hq
            have HE := Lib.hid (show (a, er) = if q = true then ((⟨v, 0, []⟩ : An), (0 : Int)) else (⟨0, 0, []⟩, 10) by rw [← HR4.out, HX0.out, HAN.out, HQ.out]; simp [hz])
            clear hz
            go_wp2_with (fail)
            refine (ref18Is_any op vx pts hA hn hc (hrs.map rgK) v 0 none 0 0 [] q _ W8 hop hrowR HM2.out hml2 HQ.out).mono ?_
            rintro e wz ⟨rfl, hbz⟩
            have hwz := hwr.trans (hbz.mono hwr.size)
            have HRZ := Lib.hid (HRBX.out.same (hbz.block (b + 1) (lt_of_cell x0)))
            have kk0 := (hbz.cell (lt_of_cell k0)).trans k0
            have kk1 := (hbz.cell (lt_of_cell k1)).trans k1
            have kk2 := (hbz.cell (lt_of_cell k2)).trans k2
            clear x0 x1 x2 f0 f1 f2 k0 k1 k2 u0 u1 u2
            obtain ⟨⟨x0, x1, x2⟩, f0, f1, f2⟩ := HRZ.out.at_
            cases q with
            | true =>
              have HX := Lib.hid (show a = ⟨v, 0, []⟩ ∧ er = 0 by have := HE.out; rw [if_pos rfl] at this; injection this with e1 e2; exact ⟨e1, e2⟩)
              have HRR := Lib.hid (hrowR.next hbz)
              go_wp2
              generalize hWf : ((wz.setCell ⟨b + 1, 0, none⟩ (.int .i64 v)).setCell ⟨b + 1, 1, none⟩ (.int .i64 0)).setCell ⟨b + 1, 2, none⟩ (.slice none 0 0) = Wf
              obtain ⟨hbf, hoth, y0, y1, y2⟩ := fin3 HRZ.out hwz hbw hWf
              exact bodyPost_ret (v := .tuple #[.agg #[.int .i64 v, .int .i64 0, .slice none 0 0], .int .i64 0]) (by simp [results, Tryd.results23, go_sem, y0, y1, y2]) rfl (by rw [HX.out.2, HX.out.1]; exact ⟨_, _, _, rfl, HM2.out, (HRR.out.keep fun g hg _ => hoth g (by have hg2 : W.heap.size ≤ g := hg; omega)).imp fun g hg => by have hg2 : W.heap.size ≤ g := hg; omega, hbf⟩)
            | false =>
              have HX := Lib.hid (show a = ⟨0, 0, []⟩ ∧ er = 10 by have := HE.out; rw [if_neg (by simp)] at this; injection this with e1 e2; exact ⟨e1, e2⟩)
              go_wp2
              generalize hWf : ((wz.setCell ⟨b + 1, 0, none⟩ (.int .i64 0)).setCell ⟨b + 1, 1, none⟩ (.int .i64 0)).setCell ⟨b + 1, 2, none⟩ (.slice none 0 0) = Wf
              obtain ⟨hbf, _, y0, y1, y2⟩ := fin3 HRZ.out hwz hbw hWf
              exact bodyPost_ret (v := .tuple #[.agg #[.int .i64 0, .int .i64 0, .slice none 0 0], .int .i64 10]) (by simp [results, Tryd.results23, go_sem, y0, y1, y2]) rfl (by rw [HX.out.2]; exact givesA_bad HX.out.1 hbf)
          · have dz : (x != 0) = true := by rw [bne_iff_ne]; exact hz
            have HX := Lib.hid (show a = ⟨0, 0, []⟩ ∧ er = 10 by have := HR4.out; rw [HX0.out, if_neg (fun h => hz h.1)] at this; injection this with e1 e2; exact ⟨e1.symm, e2.symm⟩)
            clear hz
            go_wp2
            generalize hWf : ((W8.setCell ⟨b + 1, 0, none⟩ (.int .i64 0)).setCell ⟨b + 1, 1, none⟩ (.int .i64 0)).setCell ⟨b + 1, 2, none⟩ (.slice none 0 0) = Wf
            obtain ⟨hbf, _, y0, y1, y2⟩ := fin3 HRBX.out hwr hbw hWf
            exact bodyPost_ret (v := .tuple #[.agg #[.int .i64 0, .int .i64 0, .slice none 0 0], .int .i64 10]) (by simp [results, Tryd.results23, go_sem, y0, y1, y2]) rfl (by rw [HX.out.2]; exact givesA_bad HX.out.1 hbf)
      · have dn2 : ((n : Int) != rl) = true := by rw [bne_iff_ne]; exact h2
        have HX := Lib.hid (show a = ⟨0, 0, []⟩ ∧ er = 8 by have := HR3.out; rw [if_pos (by rw [← HN.out]; exact h2)] at this; injection this with e1 e2; exact ⟨e1.symm, e2.symm⟩)
        clear h2
        go_wp2
        generalize hWf : ((wq.setCell ⟨b + 1, 0, none⟩ (.int .i64 0)).setCell ⟨b + 1, 1, none⟩ (.int .i64 0)).setCell ⟨b + 1, 2, none⟩ (.slice none 0 0) = Wf
        obtain ⟨hbf, _, y0, y1, y2⟩ := fin3 HBX.out hw2 hbw hWf
        exact bodyPost_ret (v := .tuple #[.agg #[.int .i64 0, .int .i64 0, .slice none 0 0], .int .i64 8]) (by simp [results, Tryd.results23, go_sem, y0, y1, y2]) rfl (by rw [HX.out.2]; exact givesA_bad HX.out.1 hbf)
  · have HX := Lib.hid (show a = ⟨0, 0, []⟩ ∧ er = fe by
      have h9 := HR.out
      unfold readA at h9
      rw [HFE.out, if_pos hf] at h9
      injection h9 with e1 e2
      exact ⟨e1.symm, e2.symm⟩)
    have d1 : (fe != 0) = true := by rw [bne_iff_ne]; exact hf
    clear hf
    go_wp2
    generalize hWf : ((w1.setCell ⟨b + 1, 0, none⟩ (.int .i64 0)).setCell ⟨b + 1, 1, none⟩ (.int .i64 0)).setCell ⟨b + 1, 2, none⟩ (.slice none 0 0) = Wf
    obtain ⟨hbf, _, y0, y1, y2⟩ := fin3 HBX.out hw1 hbw hWf
    exact bodyPost_ret (v := .tuple #[.agg #[.int .i64 0, .int .i64 0, .slice none 0 0], .int .i64 fe]) (by simp [results, Tryd.results23, go_sem, y0, y1, y2]) rfl (by rw [HX.out.2]; exact givesA_bad HX.out.1 hbf)
end Go.Proofs.YtcfdpimpleniaaaDoor
namespace Go.Proofs.YtcfdpimpleniaaaDoor
open Go.RowKit Go.Maps
set_option maxRecDepth 100000
set_option linter.unusedVariables false
set_option linter.unusedSimpArgs false

/-- A slice of bytes that came in. -/
structure ArgB (w : World) (A : Option Addr) (c : Nat) (bs : List Int) : Prop where
  row : SlR w (fun _ => True) .u8 A bs
  ub : UB bs
  cap : bs.length ≤ c
  nil : A = none → c = 0
  room : c ≤ 9223372036854775807
theorem ArgB.next {w w' : World} {A : Option Addr} {c : Nat} {bs : List Int} (h : ArgB w A c bs) (hb : Below w.heap.size w w') : ArgB w' A c bs := ⟨h.row.next hb, h.ub, h.cap, h.nil, h.room⟩
/-- A header that came in. -/
structure ArgH (w : World) (op vx pts : Int) (A : Option Addr) (c : Nat) (rs : List Rg) : Prop where
  row : RowR w (fun _ => True) 3 rgC A rs
  wf : ∀ r ∈ rs, S r.v
  num : S op ∧ S vx ∧ S pts
  len : rs.length ≤ 9223372036854775807
theorem ArgH.next {w w' : World} {op vx pts : Int} {A : Option Addr} {c : Nat} {rs : List Rg} (h : ArgH w op vx pts A c rs) (hb : Below w.heap.size w w') : ArgH w' op vx pts A c rs := ⟨h.row.next hb, h.wf, h.num, h.len⟩
theorem low_row {w : World} {T : Nat → Prop} {A : Option Addr} {rs : List Rg} (h : RowR w T 3 rgC A rs) : RowR w (fun g => g < w.heap.size) 3 rgC A rs := (h.now (fun _ => by simp [rgC])).imp fun _ h => h.2
theorem conv_b {w : World} {T : Nat → Prop} {A : Option Addr} {bs : List Int} {n c : Nat} (h : SlR w T .u8 A bs) (hn : n = bs.length) :
    ∃ s : ByteArray, (convert 31 9 (.slice A n c)).run Tryd.prog w = .ok (.string s) w ∧ s = strOfNums bs := by
  subst hn
  cases A with
  | none =>
    obtain rfl := h.nilOf
    exact ⟨_, run_convert_bytes_nil w 31 5 Tryd.underlying31 Tryd.underlying5 _ c 9 Tryd.underlying9, rfl⟩
  | some ad =>
    by_cases h0 : 0 < bs.length
    · obtain ⟨b, o, e, _, hc⟩ := h h0
      injection e with e
      subst e
      exact ⟨_, run_convert_bytes_arg w 31 5 Tryd.underlying31 Tryd.underlying5 b o bs.length c bs rfl (fun i hi => by rw [hc i _ (List.getElem?_eq_getElem hi)]; simp [List.getD_eq_getElem?_getD, hi]) 9 Tryd.underlying9, rfl⟩
    · obtain rfl : bs = [] := List.length_eq_zero_iff.1 (by omega)
      refine ⟨_, ?_, rfl⟩
      show (convert 31 9 (.slice (some ad) 0 c)).run Tryd.prog w = _
      rw [run_convert_bytes_string w 31 9 5 _ 0 c Tryd.underlying31 Tryd.underlying5 Tryd.underlying9, run_bytesToString w _ 0 c [] (run_loadCells_list (P := Tryd.prog) w ad [] (fun j v h => by simp at h))]
      rfl
theorem equalB_yes (A B : Option Addr) (n m c d : Nat) (bs : List Int) (T U : Nat → Prop) (w : World) (ha : SlR w T .u8 A bs) (hb : SlR w U .u8 B bs) (hn : n = bs.length) (hm : m = bs.length) :
    Calls Tryd.prog 13 #[.slice A n c, .slice B m d] w fun e w' => e = .returned (.bool true) ∧ w' = w := by
  obtain ⟨s1, q1, e1⟩ := conv_b (c := c) ha hn
  obtain ⟨s2, q2, e2⟩ := conv_b (c := d) hb hm
  have he := Lib.hid (show (s1.toList == s2.toList) = true by rw [e1, e2]; exact beq_self_eq_true _)
  clear e1 e2 ha hb hn hm
  go_enter Tryd.func13, Tryd.ntmps13
  go_wp2
  go_ret
  exact ⟨by rw [he.out]; rfl, rfl⟩
/-- The chapter's examples. -/
theorem slit {w : World} (ns : List Int) : SlR (w.alloc (.cells (ns.map (Value.int .u8)).toArray 5)) (fun _ => True) .u8 (some ⟨w.heap.size, 0, none⟩) ns := by
  intro hl
  refine ⟨w.heap.size, 0, rfl, trivial, fun j d hd => ?_⟩
  have h2 := heap_alloc_new w (.cells (ns.map (Value.int .u8)).toArray 5)
  have h3 : (ns.map (Value.int .u8))[j]? = some (.int .u8 d) := by rw [List.getElem?_map, hd]; rfl
  rw [Nat.zero_add]
  unfold World.cell?
  rw [h2]
  simpa using h3
theorem ub_of {l : List Int} (h : l.all (fun x => decide (0 ≤ x) && decide (x < 256)) = true) : UB l := fun x hx => by
  have := List.all_eq_true.1 h x hx
  simpa using this
end Go.Proofs.YtcfdpimpleniaaaDoor
namespace Go.Proofs.YtcfdpimpleniaaaDoor
open Go.RowKit Go.Maps
set_option maxRecDepth 100000
set_option linter.unusedVariables false
set_option linter.unusedSimpArgs false

theorem own_b {w : World} {base : Nat} {v : Value} {bs : List Int} (h : OwnK w base 5 .u8 v bs) : ∃ A n c, v = .slice A n c ∧ n = bs.length ∧ n ≤ c ∧ c ≤ maxLen ∧ SlR w (fun b => base ≤ b) .u8 A bs ∧ (A = none → c = 0) := by
  obtain ⟨A, c, e, h1, h2, h3⟩ := h.form
  refine ⟨A, _, c, e, rfl, h1, h2, h3, fun hA => ?_⟩
  subst hA
  rcases h.2 with ⟨e2, _⟩ | ⟨g, cap, cur, e2, _⟩
  · rw [e2] at e; injection e with _ _ e3; exact e3.symm
  · rw [e2] at e; injection e with e3; cases e3
set_option maxHeartbeats 1000000 in
theorem hasPrefixB_yes (A B : Option Addr) (n m c d : Nat) (bs : List Int) (T U : Nat → Prop) (w : World) (ha : SlR w T .u8 A bs) (hb : SlR w U .u8 B (bs.take m)) (hn : n = bs.length) (hm : m ≤ n) (hnc : n ≤ c) (hc : c ≤ 9223372036854775807) (hm1 : 1 ≤ m) :
    Calls Tryd.prog 24 #[.slice A n c, .slice B m d] w fun e w' => e = .returned (.bool true) ∧ w' = w := by
  obtain ⟨b, o, rfl, _, hcs⟩ := ha (by omega)
  have hl := Lib.hid (show m = (bs.take m).length by rw [List.length_take]; omega)
  have hs1 : SlR w T .u8 (some ⟨b, o, none⟩) (bs.take m) := ha.take m
  have HN := Lib.hid hn
  have hnm : (m : Int) ≤ n := by omega
  clear hn ha hcs
  go_enter Tryd.func24, Tryd.ntmps24
  go_wp2_with (fail)
  refine (equalB_yes _ _ m m _ d (bs.take m) _ _ w hs1 hb hl.out hl.out).mono ?_
  rintro e w2 ⟨rfl, hw2⟩
  obtain rfl := hw2.symm
  go_wp2
  go_ret
  exact ⟨rfl, rfl⟩
end Go.Proofs.YtcfdpimpleniaaaDoor
namespace Go.Proofs.YtcfdpimpleniaaaDoor
open Go.RowKit Go.Maps
set_option maxRecDepth 100000
set_option linter.unusedVariables false
set_option linter.unusedSimpArgs false

theorem slitT {w : World} (ns : List Int) : SlR (w.alloc (.cells (ns.map (Value.int .u8)).toArray 5)) (fun g => g < w.heap.size + 1) .u8 (some ⟨w.heap.size, 0, none⟩) ns := by
  intro hl
  obtain ⟨b, o, e, _, hc⟩ := slit (w := w) ns hl
  injection e with e
  injection e with e1 e2
  subst e1 e2
  exact ⟨_, _, rfl, by omega, hc⟩
set_option maxHeartbeats 2000000 in
theorem alive18_any (w : World) (hw : Wts w) : Calls Tryd.prog 10 #[] w fun e w' => e = .returned (.bool true) ∧ Below w.heap.size w w' := by
  have hE := Lib.hid (show encE ⟨⟨1, 0, ([] : List Rg).map rgK, 0⟩, ([] : List Rg).map rgD, [⟨1, 2⟩, ⟨3, 4⟩, ⟨-1, 0⟩], []⟩ (rgP []) = 0 by decide)
  obtain ⟨B0, hB0⟩ : ∃ B0, encB ⟨⟨1, 0, ([] : List Rg).map rgK, 0⟩, ([] : List Rg).map rgD, [⟨1, 2⟩, ⟨3, 4⟩, ⟨-1, 0⟩], []⟩ = B0 := ⟨_, rfl⟩
  have HBL := Lib.hid (show B0.length = 49 by rw [← hB0]; decide +kernel)
  have HBT := Lib.hid (show B0.take 9 = [1, 1, 0, 0, 0, 0, 0, 0, 0] by rw [← hB0]; decide +kernel)
  have R1 := Lib.hid (show readA ⟨1, 0, ([] : List Rg).map rgK, 0⟩ (rgP []) [0, 2] = (⟨2, 0, []⟩, 0) by decide +kernel)
  have R2 := Lib.hid (show readA ⟨1, 0, ([] : List Rg).map rgK, 0⟩ (rgP []) [8] = (⟨0, 0, []⟩, 8) by decide +kernel)
  have HB0 := Lib.hid hB0
  clear hB0
  obtain ⟨W0, hW0⟩ : ∃ W, W = (w.alloc (.cells #[.int .i64 1, .int .i64 0, .slice none 0 0, .int .i64 0] 24)).alloc (.cells #[.int .i64 1, .int .i64 2, .int .i64 3, .int .i64 4, .int .i64 (-1), .int .i64 0] 65) := ⟨_, rfl⟩
  obtain ⟨b, hb⟩ : ∃ b, b = w.heap.size := ⟨_, rfl⟩
  have q0 : Below w.heap.size w W0 := by rw [hW0]; exact ((Below.refl _ _).alloc (Nat.le_refl _) _).alloc (by simp) _
  have hs0 : W0.heap.size = w.heap.size + 2 := by rw [hW0]; simp
  have g0 : W0.cell? ⟨b, 0, none⟩ = some (.int .i64 1) := by rw [hW0, hb]; simp [go_sem]
  have g1 : W0.cell? ⟨b, 1, none⟩ = some (.int .i64 0) := by rw [hW0, hb]; simp [go_sem]
  have g2 : W0.cell? ⟨b, 2, none⟩ = some (.slice none 0 0) := by rw [hW0, hb]; simp [go_sem]
  have g3 : W0.cell? ⟨b, 3, none⟩ = some (.int .i64 0) := by rw [hW0, hb]; simp [go_sem]
  have hpr : RowR W0 (fun g => g < W0.heap.size) 2 ptC (some ⟨b + 1, 0, none⟩) [⟨1, 2⟩, ⟨3, 4⟩, ⟨-1, 0⟩] := by
    have h := row_lit (C := ptC) (w := w.alloc (.cells #[.int .i64 1, .int .i64 0, .slice none 0 0, .int .i64 0] 24)) (t := 65) ptC_len [⟨1, 2⟩, ⟨3, 4⟩, ⟨-1, 0⟩]
    have h2 := (h.now (fun _ => by simp [ptC])).imp fun g hg => hg.2
    rw [hW0, hb, show (w.heap.size + 1 : Nat) = (w.alloc (.cells #[.int .i64 1, .int .i64 0, .slice none 0 0, .int .i64 0] 24)).heap.size by simp]
    exact h2
  have HW0 := Lib.hid hW0
  have HB := Lib.hid hb
  clear hW0 hb
  go_enter Tryd.func10, Tryd.ntmps10
  go_wp2_with (fail)
  rw [← HW0.out, ← HB.out]
  refine (codEncode_c 1 0 0 none 0 0 [] none 0 0 [] (some ⟨b + 1, 0, none⟩) 3 3 [⟨1, 2⟩, ⟨3, 4⟩, ⟨-1, 0⟩] none 0 0 [] 0 B0 W0 (hw.below q0) ⟨RowR.nil_ _ _ _, rfl, RowR.nil_ _ _ _, rfl, fun r hr => (by cases hr), hpr, rfl, fun p hp => by simp at hp; rcases hp with rfl | rfl | rfl <;> (simp [S]), RowR.nil_ _ _ _, rfl, fun q hq => (by cases hq), Nat.le_refl _⟩ ⟨by omega, by omega, by omega, by omega⟩ (by simp [S]) (fun r hr => (by cases hr)) hE.out (by rw [if_pos rfl]; exact HB0.out)).mono ?_
  rintro e w1 ⟨v1, rfl, hown1, hb1⟩
  obtain ⟨A1, n1, c1, rfl, hn1, hnc1, hcm1, hs1, _⟩ := own_b hown1
  have hn49 : n1 = 49 := hn1.trans HBL.out
  subst hn49
  have HS1 := Lib.hid hs1
  have HNC := Lib.hid (And.intro hnc1 hcm1)
  have q1 := q0.trans (hb1.mono q0.size)
  have k0 := keepW hb1 g0
  have k1 := keepW hb1 g1
  have k2 := keepW hb1 g2
  have k3 := keepW hb1 g3
  clear g0 g1 g2 g3 hn1 hnc1 hcm1 hown1 hs1 hpr
  obtain ⟨W2, hW2⟩ : ∃ W, W = w1.alloc (.cells #[.int .u8 0, .int .u8 2] 5) := ⟨_, rfl⟩
  have h2 : Below w1.heap.size w1 W2 := by rw [hW2]; exact (Below.refl _ _).alloc (Nat.le_refl _) _
  have s2 : SlR W2 (fun g => g < W2.heap.size) .u8 (some ⟨w1.heap.size, 0, none⟩) [0, 2] := by
    rw [hW2]; exact (slitT [0, 2]).imp fun g hg => by simp; omega
  have HW2 := Lib.hid hW2
  have q2 := q1.trans (h2.mono q1.size)
  clear hW2
  go_wp2_with (fail)
  rw [← HW2.out]
  refine (codRead_c 1 0 0 none 0 0 [] _ 2 2 [0, 2] ⟨2, 0, []⟩ 0 W2 (hw.below q2) (RowR.nil_ _ _ _) rfl (by omega) (by simp [S]) (fun r hr => (by cases hr)) s2 rfl (ub_of (by decide)) (by omega) (by omega) R1.out).mono ?_
  rintro e w3 ⟨A3, m3, c3, rfl, hm3, hrow3, hb3⟩
  obtain ⟨W4, hW4⟩ : ∃ W, W = w3.alloc (.cells #[.int .i64 2, .int .i64 0, .slice A3 m3 c3] 53) := ⟨_, rfl⟩
  obtain ⟨b4, hb4⟩ : ∃ b, b = w3.heap.size := ⟨_, rfl⟩
  have h4 : Below w3.heap.size w3 W4 := by rw [hW4]; exact (Below.refl _ _).alloc (Nat.le_refl _) _
  have z0 : W4.cell? ⟨b4, 0, none⟩ = some (.int .i64 2) := by rw [hW4, hb4]; simp [go_sem]
  have h14 : Below w1.heap.size w1 W4 := (h2.trans (hb3.mono h2.size)).trans (h4.mono (Nat.le_trans h2.size hb3.size))
  have kk : ∀ (o : Nat) (x : Value), w1.cell? ⟨b, o, none⟩ = some x → W4.cell? ⟨b, o, none⟩ = some x := fun o x h => keepW h14 h
  have j0 := kk _ _ k0
  have j1 := kk _ _ k1
  have j2 := kk _ _ k2
  have j3 := kk _ _ k3
  have HW4 := Lib.hid hW4
  have HB4 := Lib.hid hb4
  have q4 := q1.trans (h14.mono q1.size)
  clear hW4 hb4 k0 k1 k2 k3 kk hrow3 hm3 s2 h2 q2 hb3 h4
  go_upto_region 4 with (fail)
  rw [← HW4.out, ← HB4.out]
  obtain ⟨W5, hW5⟩ : ∃ W, W = W4.alloc (.cells #[.int .u8 8] 5) := ⟨_, rfl⟩
  have h5 : Below W4.heap.size W4 W5 := by rw [hW5]; exact (Below.refl _ _).alloc (Nat.le_refl _) _
  have s5 : SlR W5 (fun g => g < W5.heap.size) .u8 (some ⟨W4.heap.size, 0, none⟩) [8] := by
    rw [hW5]; exact (slitT [8]).imp fun g hg => by simp; omega
  have HW5 := Lib.hid hW5
  have q5 := q4.trans (h5.mono q4.size)
  clear hW5
  go_wp2_with (fail)
  rw [← HW5.out]
  refine (codRead_c 1 0 0 none 0 0 [] _ 1 1 [8] ⟨0, 0, []⟩ 8 W5 (hw.below q5) (RowR.nil_ _ _ _) rfl (by omega) (by simp [S]) (fun r hr => (by cases hr)) s5 rfl (ub_of (by decide)) (by omega) (by omega) R2.out).mono ?_
  rintro e w6 ⟨A6, m6, c6, rfl, hm6, hrow6, hb6⟩
  obtain ⟨W7, hW7⟩ : ∃ W, W = w6.alloc (.cells #[.int .i64 0, .int .i64 0, .slice A6 m6 c6] 53) := ⟨_, rfl⟩
  obtain ⟨b7, hb7⟩ : ∃ b, b = w6.heap.size := ⟨_, rfl⟩
  have h7 : Below w6.heap.size w6 W7 := by rw [hW7]; exact (Below.refl _ _).alloc (Nat.le_refl _) _
  have h47 : Below W4.heap.size W4 W7 := (h5.trans (hb6.mono h5.size)).trans (h7.mono (Nat.le_trans h5.size hb6.size))
  have z1 := keepW h47 z0
  have HW7 := Lib.hid hW7
  have HB7 := Lib.hid hb7
  have q7 := q4.trans (h47.mono q4.size)
  have h17 : Below w1.heap.size w1 W7 := h14.trans (h47.mono h14.size)
  clear hW7 hb7 j0 j1 j2 j3 hrow6 hm6 s5 h5 q5 hb6 h7 z0 q4 h14 h47
  go_upto_region 5 with (fail)
  rw [← HW7.out, ← HB7.out]
  obtain ⟨W8, hW8⟩ : ∃ W, W = W7.alloc (.cells #[.int .u8 1, .int .u8 1, .int .u8 0, .int .u8 0, .int .u8 0, .int .u8 0, .int .u8 0, .int .u8 0, .int .u8 0] 5) := ⟨_, rfl⟩
  have h8 : Below W7.heap.size W7 W8 := by rw [hW8]; exact (Below.refl _ _).alloc (Nat.le_refl _) _
  have s8 : SlR W8 (fun _ => True) .u8 (some ⟨W7.heap.size, 0, none⟩) (B0.take 9) := by
    rw [hW8, HBT.out]; exact slit [1, 1, 0, 0, 0, 0, 0, 0, 0]
  have z2 := keepW h8 z1
  have HW8 := Lib.hid hW8
  clear hW8 z1
  go_wp2_with (fail)
  rw [← HW8.out]
  refine (hasPrefixB_yes _ _ 49 9 c1 9 B0 _ _ W8 (HS1.out.next (h17.trans (h8.mono h17.size))) s8 HBL.out.symm (by omega) HNC.out.1 (Nat.le_trans HNC.out.2 (by decide)) (by omega)).mono ?_
  rintro e w9 ⟨rfl, hw9⟩
  obtain rfl := hw9.symm
  go_wp2
  go_ret
  exact ⟨rfl, q7.trans (h8.mono q7.size)⟩
end Go.Proofs.YtcfdpimpleniaaaDoor
namespace Go.Proofs.YtcfdpimpleniaaaDoor
open Go.RowKit Go.Maps
set_option maxRecDepth 100000
set_option linter.unusedVariables false
set_option linter.unusedSimpArgs false

def LgRel (W : World) (l : List Rg) (n i : Value) (wr : World) : Prop := ∃ (k : Nat) (z : Int), i = .int .i64 k ∧ k ≤ l.length ∧ n = .int .i64 z ∧ Below W.heap.size W wr
set_option maxHeartbeats 2000000 in
/-- large says something; which branch of a law it chooses does not matter. -/
theorem large18_any (op vx pts : Int) (hA : Option Addr) (hn hc : Nat) (RA : Option Addr) (rn rc : Nat) (rs : List Rg) (PA : Option Addr) (pn pc : Nat) (QA : Option Addr) (qn qc : Nat) (T : Nat → Prop) (w : World) (hr : RowR w T 3 rgC RA rs) (hrn : rn = rs.length) (hrl : rn ≤ 9223372036854775807) :
    Calls Tryd.prog 9 #[.agg #[.int .i64 op, .int .i64 vx, .slice hA hn hc, .int .i64 pts, .slice RA rn rc, .slice PA pn pc, .slice QA qn qc]] w fun e w' => ∃ q : Bool, e = .returned (.bool q) ∧ Below w.heap.size w w' := by
  obtain ⟨W, hW⟩ : ∃ W, W = w.alloc (.cells #[.int .i64 op, .int .i64 vx, .slice hA hn hc, .int .i64 pts, .slice RA rn rc, .slice PA pn pc, .slice QA qn qc] 28) := ⟨_, rfl⟩
  obtain ⟨B, hB⟩ : ∃ b, b = w.heap.size := ⟨_, rfl⟩
  obtain ⟨h0, hsW, g0, g1, g2, g3, g4, g5, g6⟩ := box7 hW
  rw [← hB] at g0 g1 g2 g3 g4 g5 g6
  have HRow := Lib.hid (hr.next h0)
  have HRN := Lib.hid hrn
  have HW := Lib.hid hW
  have HB := Lib.hid hB
  obtain ⟨s1, e1⟩ : ∃ s1, IntKind.i64.wrap ((hn : Int) + (pn : Int)) = s1 := ⟨_, rfl⟩
  obtain ⟨s2, e2⟩ : ∃ s2, IntKind.i64.wrap (s1 + (qn : Int)) = s2 := ⟨_, rfl⟩
  clear hW hB hr hrn g0 g1 g3
  go_enter Tryd.func9, Tryd.ntmps9
  go_upto_region 1 with (fail)
  rw [← HW.out, ← HB.out]
  go_wp2
  go_loopw [3, 21] (fun n i wr => LgRel W rs n i wr) (fun _ i _ => rn - (intOf i).toNat)
  case atStart => exact ⟨0, s2, rfl, Nat.zero_le _, rfl, Below.refl _ _⟩
  case round =>
    clear g2 g4 g5 g6 e1 e2
    obtain ⟨k, z, rfl, hk, rfl, hb⟩ := hrel
    by_cases hgo : k < rs.length
    · obtain ⟨b, o, rfl, _, c0, c1, c2⟩ := (HRow.out.next hb).rg2 hgo
      obtain ⟨m, hm⟩ : ∃ m, (rs[k]).l.length = m := ⟨_, rfl⟩
      rw [hm] at c2
      have hbox : Below wr.heap.size wr (wr.alloc (.cells #[.bool (rs[k]).d, .int .i64 (rs[k]).v, .slice (rs[k]).A m (rs[k]).c] 63)) := (Below.refl _ _).alloc (Nat.le_refl _) _
      generalize (rs[k]).A = A2 at c2 hbox
      generalize (rs[k]).c = cc at c2 hbox
      generalize (rs[k]).v = vv at c1 hbox
      generalize (rs[k]).d = dd at c0 hbox
      obtain ⟨q1, f1⟩ : ∃ q1, IntKind.i64.wrap (1 + min (m : Int) 9000) = q1 := ⟨_, rfl⟩
      obtain ⟨q2, f2⟩ : ∃ q2, IntKind.i64.wrap (z + q1) = q2 := ⟨_, rfl⟩
      have hkr : (k : Int) < rn := by have := HRN.out; omega
      have hkb : k + 1 ≤ 9223372036854775807 := by have := HRN.out; omega
      have hb2 := hb.trans (hbox.mono hb.size)
      clear hm hbox
      by_cases h9 : 9000 < q2
      · have d9 : decide (9000 < q2) = true := decide_eq_true h9
        clear h9
        go_wp2
        go_ret
        exact ⟨true, rfl, h0.trans (hb2.mono h0.size)⟩
      · have d9 : decide (9000 < q2) = false := decide_eq_false h9
        clear h9
        go_wp2
        go_roundw
        case rel => exact ⟨k + 1, q2, by go_num, hgo, rfl, hb2⟩
        case measure => have := HRN.out; simp [intOf]; omega
    · have hkr : ¬ ((k : Int) < rn) := by have := HRN.out; omega
      by_cases h9 : 9000 < z
      · have d9 : decide (9000 < z) = true := decide_eq_true h9
        clear h9
        go_wp2
        go_ret
        exact ⟨.inr rfl, h0.trans (hb.mono h0.size)⟩
      · have d9 : decide (9000 < z) = false := decide_eq_false h9
        clear h9
        go_wp2
        go_ret
        exact ⟨.inl rfl, h0.trans (hb.mono h0.size)⟩
theorem ReqR.low {w : World} {T : Nat → Prop} {hA : Option Addr} {hn hc : Nat} {hrs : List Rg} {RA : Option Addr} {rn rc : Nat} {rs : List Rg} {PA : Option Addr} {pn pc : Nat} {ps : List Pt} {QA : Option Addr} {qn qc : Nat} {qs : List Qr} (h : ReqR w T hA hn hc hrs RA rn rc rs PA pn pc ps QA qn qc qs) :
    ReqR w (fun g => g < w.heap.size) hA hn hc hrs RA rn rc rs PA pn pc ps QA qn qc qs :=
  ⟨low_row h.hrow, h.hlen, low_row h.rrow, h.rlen, (h.rok.imp fun _ _ => trivial).low, (h.prow.now (fun _ => by simp [ptC])).imp fun _ h => h.2, h.plen, h.pss, (h.qrow.now (fun _ => by simp [qrC])).imp fun _ h => h.2, h.qlen, h.qok, h.pcap⟩
set_option maxHeartbeats 2000000 in
theorem law_codecEncodes (op vx pts : Int) (hA : Option Addr) (hn hc : Nat) (hrs : List Rg) (RA : Option Addr) (rn rc : Nat) (rs : List Rg) (PA : Option Addr) (pn pc : Nat) (ps : List Pt) (QA : Option Addr) (qn qc : Nat) (qs : List Qr) (w : World) (hw : Wts w) (hr : ReqR w (fun _ => True) hA hn hc hrs RA rn rc rs PA pn pc ps QA qn qc qs) (hN : ReqN op vx pts hn rn pn qn hrs) :
    Calls Tryd.prog 3 #[.agg #[.int .i64 op, .int .i64 vx, .slice hA hn hc, .int .i64 pts, .slice RA rn rc, .slice PA pn pc, .slice QA qn qc]] w fun e w' => e = .returned (.bool true) ∧ Below w.heap.size w w' := by
  obtain ⟨W, hW⟩ : ∃ W, W = w.alloc (.cells #[.int .i64 op, .int .i64 vx, .slice hA hn hc, .int .i64 pts, .slice RA rn rc, .slice PA pn pc, .slice QA qn qc] 28) := ⟨_, rfl⟩
  obtain ⟨B, hB⟩ : ∃ b, b = w.heap.size := ⟨_, rfl⟩
  obtain ⟨h0, hsW, g0, g1, g2, g3, g4, g5, g6⟩ := box7 hW
  rw [← hB] at g0 g1 g2 g3 g4 g5 g6
  have HRQ := Lib.hid (hr.next h0)
  have HN := Lib.hid hN
  have HW := Lib.hid hW
  have HB := Lib.hid hB
  have HG := Lib.hid (ReqAt.mk g0 g1 g2 g3 g4 g5 g6)
  have hBW : B < W.heap.size := by omega
  obtain ⟨er, her⟩ : ∃ er, encE ⟨⟨op, vx, hrs.map rgK, pts⟩, rs.map rgD, ps, qs⟩ (rgP hrs) = er := ⟨_, rfl⟩
  obtain ⟨bs, hbs⟩ : ∃ bs, (if er = 0 then encB ⟨⟨op, vx, hrs.map rgK, pts⟩, rs.map rgD, ps, qs⟩ else []) = bs := ⟨_, rfl⟩
  have HE := Lib.hid her
  have HBS := Lib.hid hbs
  clear hW hB hr hN her hbs hsW
  go_enter Tryd.func3, Tryd.ntmps3
  go_upto_region 1 with (fail)
  rw [← HW.out, ← HB.out]
  go_wp2_with (fail)
  refine (large18_any op vx pts hA hn hc RA rn rc rs PA pn pc QA qn qc _ W HRQ.out.rrow HRQ.out.rlen HN.out.len.2.1).mono ?_
  rintro e w1 ⟨q, rfl, hb1⟩
  have q1 := h0.trans (hb1.mono h0.size)
  clear g0 g1 g2 g3 g4 g5 g6
  cases q with
  | true =>
    go_wp2_with (fail)
    refine (alive18_any w1 (hw.below q1)).mono ?_
    rintro e w2 ⟨rfl, hb2⟩
    go_wp2
    go_ret
    exact ⟨rfl, q1.trans (hb2.mono q1.size)⟩
  | false =>
    obtain ⟨k0, k1, k2, k3, k4, k5, k6⟩ := HG.out.next hb1 hBW
    go_wp2_with (fail)
    refine (codEncode_c op vx pts hA hn hc hrs RA rn rc rs PA pn pc ps QA qn qc qs er bs w1 (hw.below q1) (HRQ.out.next hb1).low HN.out.len HN.out.num HN.out.wf HE.out HBS.out).mono ?_
    rintro e w2 ⟨v2, rfl, hown2, hb2⟩
    have hb12 := hb1.trans (hb2.mono hb1.size)
    have q2 := q1.trans (hb2.mono q1.size)
    obtain ⟨A2, n2, c2, rfl, hn2, _, _, hs2, _⟩ := own_b hown2
    have HN2 := Lib.hid hn2
    clear k0 k1 k2 k3 k4 k5 k6 hb2 hown2 hn2
    obtain ⟨k0, k1, k2, k3, k4, k5, k6⟩ := HG.out.next hb12 hBW
    go_wp2_with (fail)
    have hrq2 := (HRQ.out.next hb12).low
    refine (ref18Encode_any op vx pts hA hn hc hrs RA rn rc rs PA pn pc ps QA qn qc qs er bs w2 hrq2.hrow hrq2.hlen HN.out.len.1 hrq2.rrow hrq2.rlen HN.out.len.2.1 hrq2.rok hrq2.prow hrq2.plen HN.out.len.2.2.1 hrq2.pss hrq2.qrow hrq2.qlen HN.out.len.2.2.2 hrq2.qok HE.out HBS.out).mono ?_
    rintro e w4 ⟨v4, rfl, hown4, hb4⟩
    have q4 := q2.trans (hb4.mono q2.size)
    obtain ⟨A4, n4, c4, rfl, hn4, _, _, hs4, _⟩ := own_b hown4
    have HN4 := Lib.hid hn4
    have hs2b := hs2.next hb4
    clear k0 k1 k2 k3 k4 k5 k6 hb4 hown4 hn4 hs2 hrq2
    go_wp2_with (fail)
    refine (alive18_any w4 (hw.below q4)).mono ?_
    rintro e w5 ⟨rfl, hb5⟩
    have q5 := q4.trans (hb5.mono q4.size)
    go_wp2_with (fail)
    refine (equalB_yes A2 A4 n2 n4 c2 c4 bs _ _ w5 (hs2b.next hb5) (hs4.next hb5) HN2.out HN4.out).mono ?_
    rintro e w6 ⟨rfl, hw6⟩
    obtain rfl := hw6.symm
    go_wp2
    go_ret
    exact ⟨rfl, q5⟩
end Go.Proofs.YtcfdpimpleniaaaDoor
namespace Go.Proofs.YtcfdpimpleniaaaDoor
open Go.ChangeShapes Go.WideShapes Go.ChangeAt Go.RowKit

theorem U_of_wf {a : Int} (h : (Lit.int .u64 a).wf = true) : U a := by
  have := bounds_u64 h; unfold U; omega
theorem S_of_wf {a : Int} (h : (Lit.int .i64 a).wf = true) : S a := by
  have := bounds_i64 h; unfold S; omega
theorem u8_of_wf {a : Int} (h : (Lit.int .u8 a).wf = true) : 0 ≤ a ∧ a < 256 := by
  simp [Lit.wf, IntKind.min, IntKind.max, IntKind.signed, IntKind.bits] at h
  omega
end Go.Proofs.YtcfdpimpleniaaaDoor
namespace Go.Proofs.YtcfdpimpleniaaaDoor
open Go.RowKit
set_option maxRecDepth 100000
set_option linter.unusedVariables false
set_option linter.unusedSimpArgs false

/-- Types made of integers, structs and arrays alone, whose parts leave no cell out. -/
def flatT (P : Program) : Nat → TypeId → Bool
  | 0, _ => false
  | n + 1, t => match P.underlying t with
    | some (.int _) => true
    | some (.struct fs) => fs.toList.all (fun f => flatT P n f.type) && (List.range (P.cellsOf t)).all fun j => (List.range fs.size).any fun i => match fs[i]? with | some f => decide (f.offset ≤ j ∧ j < f.offset + P.cellsOf f.type) | none => false
    | some (.array m e) => flatT P n e && (List.range (P.cellsOf t)).all fun j => (List.range m).any fun i => decide (i * P.cellsOf e ≤ j ∧ j < i * P.cellsOf e + P.cellsOf e)
    | _ => false

theorem chunk_at {α : Type} {cs cs' : List α} {a c j : Nat} (h : (cs.drop a).take c = (cs'.drop a).take c) (h1 : a ≤ j) (h2 : j < a + c) : cs[j]? = cs'[j]? := by
  have := congrArg (·[j - a]?) h
  simp only [List.getElem?_take, List.getElem?_drop] at this
  rw [if_pos (by omega), if_pos (by omega), show a + (j - a) = j by omega] at this
  exact this

theorem flat_unique {H : Type} {enc : TypeId × Value → H} {P : Program} {w : World} {base : Nat} {sp : Nat → Bool} {held : Bool} : ∀ (n : Nat) {fuel fuel' : Nat} {t : TypeId} {cs cs' : List Value} {D : DataW H} {p p' : List MemPlace},
    flatT P n t = true → DataW.trod enc P w base sp held fuel t cs = some (D, p) → DataW.trod enc P w base sp held fuel' t cs' = some (D, p') → cs = cs' := by
  intro n
  induction n with
  | zero => intro _ _ _ _ _ _ _ _ h; simp [flatT] at h
  | succ n ih =>
    intro fuel fuel' t cs cs' D p p' hf h h'
    unfold flatT at hf
    split at hf
    · rename_i k ht
      obtain ⟨x, rfl, hx, _⟩ := DataW.trod_int ht h
      obtain ⟨y, rfl, hy, _⟩ := DataW.trod_int ht h'
      injection hx with hx _
      injection hy with hy _
      rw [hx] at hy
      injection hy with hy
      injection hy with _ hy
      rw [hy]
    · rename_i fs ht
      simp only [Bool.and_eq_true, List.all_eq_true, List.any_eq_true, List.mem_range] at hf
      obtain ⟨hf1, hf2⟩ := hf
      obtain ⟨xs, m, rfl, hx, hl, hxl, hxs⟩ := DataW.trod_struct ht h
      obtain ⟨ys, m', rfl, hy, hl', hyl, hys⟩ := DataW.trod_struct ht h'
      injection hx with hx _
      injection hy with hy _
      rw [hx] at hy
      injection hy with hy
      apply List.ext_getElem?
      intro j
      by_cases hj : j < P.cellsOf t
      · obtain ⟨i, hi, hd⟩ := hf2 j hj
        have hif : fs[i]? = some fs[i] := Array.getElem?_eq_getElem hi
        rw [hif] at hd
        simp only [decide_eq_true_eq] at hd
        have e1 := hxs i _ hif
        have e2 := hys i _ hif
        have e3 := congrArg (·[i]?) hy
        simp only [List.getElem?_map] at e3
        rw [List.getElem?_eq_getElem (by omega)] at e1 e2
        rw [List.getElem?_eq_getElem (by omega), List.getElem?_eq_getElem (by omega)] at e3
        simp only [Option.map_some, Option.some.injEq] at e3
        have hm : fs[i] ∈ fs.toList := by simp
        exact chunk_at (ih (D := xs[i].1) (p := xs[i].2) (p' := ys[i].2) (hf1 _ hm) e1 (by rw [e2, e3])) hd.1 hd.2
      · rw [List.getElem?_eq_none (by omega), List.getElem?_eq_none (by omega)]
    · rename_i m0 e ht
      simp only [Bool.and_eq_true, List.all_eq_true, List.any_eq_true, List.mem_range, decide_eq_true_eq] at hf
      obtain ⟨hf1, hf2⟩ := hf
      obtain ⟨xs, m, rfl, hx, hl, hxl, hxs⟩ := DataW.trod_array ht h
      obtain ⟨ys, m', rfl, hy, hl', hyl, hys⟩ := DataW.trod_array ht h'
      injection hx with hx _
      injection hy with hy _
      rw [hx] at hy
      injection hy with hy
      apply List.ext_getElem?
      intro j
      by_cases hj : j < P.cellsOf t
      · obtain ⟨i, hi, hd⟩ := hf2 j hj
        have e1 := hxs i hi
        have e2 := hys i hi
        have e3 := congrArg (·[i]?) hy
        simp only [List.getElem?_map] at e3
        rw [List.getElem?_eq_getElem (by omega)] at e1 e2
        rw [List.getElem?_eq_getElem (by omega), List.getElem?_eq_getElem (by omega)] at e3
        simp only [Option.map_some, Option.some.injEq] at e3
        exact chunk_at (ih (D := xs[i].1) (p := xs[i].2) (p' := ys[i].2) hf1 e1 (by rw [e2, e3])) hd.1 hd.2
      · rw [List.getElem?_eq_none (by omega), List.getElem?_eq_none (by omega)]
    · cases hf

/-- From the row's condition to the cells: the table stands first on the list. -/
theorem flat_of_head {P : Program} {W : World} {name : String} {D : DataW Unit} {rest : List (String × DataW Unit)} {g n fuel : Nat} {t : TypeId} {cs0 : List Value} {p0 : List MemPlace}
    (hg : P.globalNamed name = some g) (hty : (P.globals[g]?).map (·.type) = some t) (hf : flatT P n t = true)
    (h0 : DataW.trod (fun _ => ()) P W 0 (fun _ => true) false fuel t cs0 = some (D, p0)) (h : laidMet P ((name, D) :: rest) W) : W.var? P name = some cs0.toArray := by
  obtain ⟨ps, ⟨g', t', cs, fuel, p, q, hg', ht', hvar, hd, _, _⟩, _⟩ := h
  obtain rfl := Option.some.inj (hg.symm.trans hg')
  obtain rfl := Option.some.inj (hty.symm.trans ht')
  rw [hvar, ← flat_unique n hf hd h0]
end Go.Proofs.YtcfdpimpleniaaaDoor
namespace Go.Proofs.YtcfdpimpleniaaaDoor
open Go.ChangeShapes Go.WideShapes Go.ChangeAt Go.RowKit

theorem own : ownKnob Tryd.prog.godebug = none := by kernel_rfl
theorem laidOut : laidOutB Tryd.prog = true := by kernel_rfl
def laidW : List (String × DataW Unit) := [("geofence/header.lengths", Rows.laid_geofence_header_lengths), ("geofence/codec.prescriptions", Rows.laid_geofence_codec_prescriptions)]
theorem door_met (os : Os) (args : Array Value) : laidMetH Tryd.prog laidW ((World.doorLaid Tryd.prog 29 os).forCall (fun _ _ => 0) ⟨#[], args, []⟩).memory :=
  laidMetH_of_parts3 (fuel := 8) (laidMet_of_run' 8 (by kernel_rfl) (by kernel_rfl)) (by kernel_rfl) (by kernel_rfl)
theorem wts_of_laid {W : World} (h : laidMetH Tryd.prog laidW W) : Wts W := by
  rw [MakeChecks.laidMetH_plain _ _ _ (by kernel_rfl)] at h
  have h0 : laidMet Tryd.prog [("geofence/header.lengths", .agg [.agg [.lit (.int .i64 0), .lit (.int .i64 0)], .agg [.lit (.int .i64 3), .lit (.int .i64 2)], .agg [.lit (.int .i64 4), .lit (.int .i64 2)], .agg [.lit (.int .i64 1), .lit (.int .i64 2)], .agg [.lit (.int .i64 1), .lit (.int .i64 2)], .agg [.lit (.int .i64 0), .lit (.int .i64 4)]]), ("geofence/codec.prescriptions", .agg [.agg [.lit (.int .i64 0), .lit (.int .i64 0)], .agg [.lit (.int .i64 3), .lit (.int .i64 2)], .agg [.lit (.int .i64 4), .lit (.int .i64 2)], .agg [.lit (.int .i64 1), .lit (.int .i64 3)], .agg [.lit (.int .i64 1), .lit (.int .i64 2)], .agg [.lit (.int .i64 0), .lit (.int .i64 1)]])] W := h
  have g0 : Tryd.prog.globalNamed "geofence/header.lengths" = some 1 := by kernel_rfl
  have T0 := flat_of_head (n := 6) (fuel := 6) (t := 122) (p0 := []) (cs0 := [.int .i64 0, .int .i64 0, .int .i64 3, .int .i64 2, .int .i64 4, .int .i64 2, .int .i64 1, .int .i64 2, .int .i64 1, .int .i64 2, .int .i64 0, .int .i64 4]) g0 (by kernel_rfl) (by kernel_rfl) (by kernel_rfl) h0
  have h1 := laidMet.tail h0
  have g1 : Tryd.prog.globalNamed "geofence/codec.prescriptions" = some 0 := by kernel_rfl
  have T1 := flat_of_head (n := 6) (fuel := 6) (t := 117) (p0 := []) (cs0 := [.int .i64 0, .int .i64 0, .int .i64 3, .int .i64 2, .int .i64 4, .int .i64 2, .int .i64 1, .int .i64 3, .int .i64 1, .int .i64 2, .int .i64 0, .int .i64 1]) g1 (by kernel_rfl) (by kernel_rfl) (by kernel_rfl) h1
  refine ⟨trivial, ?_⟩
  intro p hp
  simp only [seatTabs, List.mem_cons, List.not_mem_nil, or_false] at hp
  rcases hp with rfl | rfl
  · intro i v hv
    have hh := World.var?_cell g0 T0 i
    rw [hh]
    exact (List.getElem?_toArray ..).trans hv
  · intro i v hv
    have hh := World.var?_cell g1 T1 i
    rw [hh]
    exact (List.getElem?_toArray ..).trans hv
end Go.Proofs.YtcfdpimpleniaaaDoor
namespace Go.Proofs.YtcfdpimpleniaaaDoor
open Go.RowKit Go.ChangeShapes Go.WideShapes
set_option maxRecDepth 100000
set_option linter.unusedVariables false
set_option linter.unusedSimpArgs false

section
variable {H : Type} {enc : TypeId × Value → H} {P : Program} {W : World} {base : Nat} {held : Bool}
theorem rg_cells {e ep : TypeId} {f0 f1 f2 g0 g1 : Field} {n : Nat} {cs : List Value} {y : DataW H × List MemPlace} (hu : P.underlying e = some (.struct #[f0, f1, f2])) (h0 : P.underlying f0.type = some .bool) (h1 : P.underlying f1.type = some (.int .i64)) (h2 : P.underlying f2.type = some (.slice ep))
    (o : f0.offset = 0 ∧ f1.offset = 1 ∧ f2.offset = 2) (c : P.cellsOf f0.type = 1 ∧ P.cellsOf f1.type = 1 ∧ P.cellsOf f2.type = 1) (ct : P.cellsOf e = 3)
    (hp : P.underlying ep = some (.struct #[g0, g1])) (p0 : P.underlying g0.type = some (.int .i64)) (p1 : P.underlying g1.type = some (.int .i64)) (po : g0.offset = 0 ∧ g1.offset = 1) (pc : P.cellsOf g0.type = 1 ∧ P.cellsOf g1.type = 1) (pt : P.cellsOf ep = 2)
    (h : DataW.trod enc P W base (fun _ => true) held n e cs = some y) : ∃ r : Rg, cs = rgC r ∧ RegOk W (fun _ => True) r := by
  obtain ⟨y0, y1, y2, m, _, hl, k0, k1, k2⟩ := Go.Deep.trod_struct3 hu h
  rw [ct] at hl
  rw [o.1, c.1] at k0
  rw [o.2.1, c.2.1] at k1
  rw [o.2.2, c.2.2] at k2
  match cs, hl with
  | [v0, v1, v2], _ =>
    obtain ⟨d, hd, _⟩ := DataW.trod_bool h0 k0
    obtain ⟨v, hv, _, wv⟩ := DataW.trod_int h1 k1
    obtain ⟨A, cp, l, hs, hrow, hwf, hlc, _, hnil⟩ := row_cells (k := 2) ptC (fun x => (Lit.int .i64 x.x).wf = true ∧ (Lit.int .i64 x.y).wf = true) h2 pt (by decide)
      (fun _ _ _ h => by obtain ⟨a, b, e, h1, h2⟩ := ints2_cells hp p0 p1 po pc pt h; exact ⟨⟨a, b⟩, e, h1, h2⟩) k2
    simp [Value.cells] at hd hv hs
    exact ⟨⟨d, v, A, cp, l⟩, by rw [hd, hv, hs]; rfl, ⟨hrow, fun q hq => ⟨S_of_wf (hwf q hq).1, S_of_wf (hwf q hq).2⟩, hnil, S_of_wf wv⟩⟩
end
end Go.Proofs.YtcfdpimpleniaaaDoor
namespace Go.Proofs.YtcfdpimpleniaaaDoor
open Go.RowKit Go.ChangeShapes Go.WideShapes
set_option maxRecDepth 100000
set_option linter.unusedVariables false
set_option linter.unusedSimpArgs false

/-- A header in memory. -/
structure Hx where
  op : Int
  vx : Int
  A : Option Addr
  c : Nat
  l : List Rg
  pts : Int
def hdC (x : Hx) : List Value := [.int .i64 x.op, .int .i64 x.vx, .slice x.A x.l.length x.c, .int .i64 x.pts]
structure HxOk (W : World) (x : Hx) : Prop where
  op : (Lit.int .i64 x.op).wf = true
  vx : (Lit.int .i64 x.vx).wf = true
  pts : (Lit.int .i64 x.pts).wf = true
  row : RowR W (fun _ => True) 3 rgC x.A x.l
  regs : ∀ r ∈ x.l, RegOk W (fun _ => True) r
  cap : x.l.length ≤ x.c
  max : x.c ≤ maxLen
section
variable {H : Type} {enc : TypeId × Value → H} {P : Program} {W : World} {base : Nat} {held : Bool}
theorem trod_struct4x {t : TypeId} {f0 f1 f2 f3 : Field} {spare : Nat → Bool} {fuel : Nat} {cs : List Value} {x : DataW H × List MemPlace} (ht : P.underlying t = some (.struct #[f0, f1, f2, f3])) (h : DataW.trod enc P W base spare held fuel t cs = some x) :
    ∃ y0 y1 y2 y3 n, cs.length = P.cellsOf t ∧ DataW.trod enc P W base spare held n f0.type ((cs.drop f0.offset).take (P.cellsOf f0.type)) = some y0 ∧
      DataW.trod enc P W base spare held n f1.type ((cs.drop f1.offset).take (P.cellsOf f1.type)) = some y1 ∧ DataW.trod enc P W base spare held n f2.type ((cs.drop f2.offset).take (P.cellsOf f2.type)) = some y2 ∧ DataW.trod enc P W base spare held n f3.type ((cs.drop f3.offset).take (P.cellsOf f3.type)) = some y3 := by
  obtain ⟨xs, n, _, rfl, hl, hlen, hf⟩ := DataW.trod_struct ht h
  match xs, hlen with
  | [y0, y1, y2, y3], _ => exact ⟨y0, y1, y2, y3, n, hl, by simpa using hf 0 f0 rfl, by simpa using hf 1 f1 rfl, by simpa using hf 2 f2 rfl, by simpa using hf 3 f3 rfl⟩
theorem hd_cells {e er : TypeId} {f0 f1 f2 f3 : Field} {n : Nat} {cs : List Value} {y : DataW H × List MemPlace} (hu : P.underlying e = some (.struct #[f0, f1, f2, f3])) (h0 : P.underlying f0.type = some (.int .i64)) (h1 : P.underlying f1.type = some (.int .i64)) (h2 : P.underlying f2.type = some (.slice er)) (h3 : P.underlying f3.type = some (.int .i64))
    (o : f0.offset = 0 ∧ f1.offset = 1 ∧ f2.offset = 2 ∧ f3.offset = 3) (c : P.cellsOf f0.type = 1 ∧ P.cellsOf f1.type = 1 ∧ P.cellsOf f2.type = 1 ∧ P.cellsOf f3.type = 1) (ct : P.cellsOf e = 4) (cr : P.cellsOf er = 3)
    (hE : ∀ n cs y, DataW.trod enc P W base (fun _ => true) held n er cs = some y → ∃ r : Rg, cs = rgC r ∧ RegOk W (fun _ => True) r)
    (h : DataW.trod enc P W base (fun _ => true) held n e cs = some y) : ∃ x : Hx, cs = hdC x ∧ HxOk W x := by
  obtain ⟨y0, y1, y2, y3, m, hl, k0, k1, k2, k3⟩ := trod_struct4x hu h
  rw [ct] at hl
  rw [o.1, c.1] at k0
  rw [o.2.1, c.2.1] at k1
  rw [o.2.2.1, c.2.2.1] at k2
  rw [o.2.2.2, c.2.2.2] at k3
  match cs, hl with
  | [v0, v1, v2, v3], _ =>
    obtain ⟨a, ha, _, wa⟩ := DataW.trod_int h0 k0
    obtain ⟨b, hb, _, wb⟩ := DataW.trod_int h1 k1
    obtain ⟨d, hd, _, wd⟩ := DataW.trod_int h3 k3
    obtain ⟨A, cp, l, hs, hrow, hwf, hlc, hmx, _⟩ := row_cells (k := 3) rgC (fun x => RegOk W (fun _ => True) x) h2 cr (by decide) hE k2
    simp [Value.cells] at ha hb hd hs
    exact ⟨⟨a, b, A, cp, l, d⟩, by rw [ha, hb, hd, hs]; rfl, ⟨wa, wb, wd, hrow, hwf, hlc, hmx⟩⟩
end
end Go.Proofs.YtcfdpimpleniaaaDoor
namespace Go.Proofs.YtcfdpimpleniaaaDoor
open Go.RowKit Go.ChangeShapes Go.WideShapes
set_option maxRecDepth 100000
set_option linter.unusedVariables false
set_option linter.unusedSimpArgs false

/-- A request in memory. -/
structure Rx where
  h : Hx
  RA : Option Addr
  rc : Nat
  rs : List Rg
  PA : Option Addr
  pc : Nat
  ps : List Pt
  QA : Option Addr
  qc : Nat
  qs : List Qr
def rxC (x : Rx) : List Value := [.int .i64 x.h.op, .int .i64 x.h.vx, .slice x.h.A x.h.l.length x.h.c, .int .i64 x.h.pts, .slice x.RA x.rs.length x.rc, .slice x.PA x.ps.length x.pc, .slice x.QA x.qs.length x.qc]
structure RxOk (W : World) (x : Rx) : Prop where
  h : HxOk W x.h
  req : ReqR W (fun _ => True) x.h.A x.h.l.length x.h.c x.h.l x.RA x.rs.length x.rc x.rs x.PA x.ps.length x.pc x.ps x.QA x.qs.length x.qc x.qs
  max : x.h.l.length ≤ maxLen ∧ x.rs.length ≤ maxLen ∧ x.ps.length ≤ maxLen ∧ x.qs.length ≤ maxLen
/-- An answer in memory. -/
structure Ax where
  v : Int
  n : Int
  A : Option Addr
  c : Nat
  l : List Rc
def axC (x : Ax) : List Value := [.int .i64 x.v, .int .i64 x.n, .slice x.A x.l.length x.c]
structure AxOk (W : World) (x : Ax) : Prop where
  num : S x.v ∧ S x.n
  row : RowR W (fun _ => True) 2 rcC x.A x.l
  us : ∀ r ∈ x.l, U r.live ∧ U r.id
  max : x.l.length ≤ maxLen
section
variable {H : Type} {enc : TypeId × Value → H} {P : Program} {W : World} {base : Nat} {held : Bool}
theorem qr_cells {e : TypeId} {f0 f1 : Field} {n : Nat} {cs : List Value} {y : DataW H × List MemPlace} (hu : P.underlying e = some (.struct #[f0, f1])) (h1 : P.underlying f1.type = some (.int .u64)) (o : f0.offset = 0 ∧ f1.offset = 2) (c : P.cellsOf f0.type = 2 ∧ P.cellsOf f1.type = 1) (ct : P.cellsOf e = 3)
    (hP : ∀ n cs y, DataW.trod enc P W base (fun _ => true) held n f0.type cs = some y → ∃ p : Pt, cs = ptC p ∧ (Lit.int .i64 p.x).wf = true ∧ (Lit.int .i64 p.y).wf = true)
    (h : DataW.trod enc P W base (fun _ => true) held n e cs = some y) : ∃ q : Qr, cs = qrC q ∧ OkQ q := by
  obtain ⟨y0, y1, m, _, hl, k0, k1⟩ := trod_struct2 hu h
  rw [ct] at hl
  rw [o.1, c.1] at k0
  rw [o.2, c.2] at k1
  match cs, hl with
  | [v0, v1, v2], _ =>
    obtain ⟨p, hp, wx, wy⟩ := hP _ _ _ k0
    obtain ⟨b, hb, _, wb⟩ := DataW.trod_int h1 k1
    simp [Value.cells, ptC] at hb hp
    exact ⟨⟨p, b⟩, by rw [hp.1, hp.2, hb]; rfl, ⟨⟨S_of_wf wx, S_of_wf wy⟩, U_of_wf wb⟩⟩
theorem rx_cells {e er ep eq : TypeId} {f0 f1 f2 f3 : Field} {n : Nat} {cs : List Value} {y : DataW H × List MemPlace} (hu : P.underlying e = some (.struct #[f0, f1, f2, f3])) (h1 : P.underlying f1.type = some (.slice er)) (h2 : P.underlying f2.type = some (.slice ep)) (h3 : P.underlying f3.type = some (.slice eq))
    (o : f0.offset = 0 ∧ f1.offset = 4 ∧ f2.offset = 5 ∧ f3.offset = 6) (c : P.cellsOf f0.type = 4 ∧ P.cellsOf f1.type = 1 ∧ P.cellsOf f2.type = 1 ∧ P.cellsOf f3.type = 1) (ct : P.cellsOf e = 7) (cr : P.cellsOf er = 3 ∧ P.cellsOf ep = 2 ∧ P.cellsOf eq = 3)
    (hH : ∀ n cs y, DataW.trod enc P W base (fun _ => true) held n f0.type cs = some y → ∃ x : Hx, cs = hdC x ∧ HxOk W x)
    (hR : ∀ n cs y, DataW.trod enc P W base (fun _ => true) held n er cs = some y → ∃ r : Rg, cs = rgC r ∧ RegOk W (fun _ => True) r)
    (hP : ∀ n cs y, DataW.trod enc P W base (fun _ => true) held n ep cs = some y → ∃ p : Pt, cs = ptC p ∧ (Lit.int .i64 p.x).wf = true ∧ (Lit.int .i64 p.y).wf = true)
    (hQ : ∀ n cs y, DataW.trod enc P W base (fun _ => true) held n eq cs = some y → ∃ q : Qr, cs = qrC q ∧ OkQ q)
    (h : DataW.trod enc P W base (fun _ => true) held n e cs = some y) : ∃ x : Rx, cs = rxC x ∧ RxOk W x := by
  obtain ⟨y0, y1, y2, y3, m, hl, k0, k1, k2, k3⟩ := trod_struct4x hu h
  rw [ct] at hl
  rw [o.1, c.1] at k0
  rw [o.2.1, c.2.1] at k1
  rw [o.2.2.1, c.2.2.1] at k2
  rw [o.2.2.2, c.2.2.2] at k3
  match cs, hl with
  | [v0, v1, v2, v3, v4, v5, v6], _ =>
    obtain ⟨x, hx, wx⟩ := hH _ _ _ k0
    obtain ⟨RA, rc, rs, hs1, hrow1, hwf1, hl1, hm1, _⟩ := row_cells (k := 3) rgC (fun x => RegOk W (fun _ => True) x) h1 cr.1 (by decide) hR k1
    obtain ⟨PA, pc, ps, hs2, hrow2, hwf2, hl2, hm2, _⟩ := row_cells (k := 2) ptC (fun x => (Lit.int .i64 x.x).wf = true ∧ (Lit.int .i64 x.y).wf = true) h2 cr.2.1 (by decide) hP k2
    obtain ⟨QA, qc, qs, hs3, hrow3, hwf3, hl3, hm3, _⟩ := row_cells (k := 3) qrC OkQ h3 cr.2.2 (by decide) hQ k3
    simp [hdC] at hx hs1 hs2 hs3
    exact ⟨⟨x, RA, rc, rs, PA, pc, ps, QA, qc, qs⟩, by rw [hx.1, hx.2.1, hx.2.2.1, hx.2.2.2, hs1, hs2, hs3]; rfl,
      ⟨wx, ⟨wx.row, rfl, hrow1, rfl, hwf1, hrow2, rfl, fun q hq => ⟨S_of_wf (hwf2 q hq).1, S_of_wf (hwf2 q hq).2⟩, hrow3, rfl, hwf3, hl2⟩, Nat.le_trans wx.cap wx.max, Nat.le_trans hl1 hm1, Nat.le_trans hl2 hm2, Nat.le_trans hl3 hm3⟩⟩
theorem RxOk.len {x : Rx} (h : RxOk W x) : ReqN x.h.op x.h.vx x.h.pts x.h.l.length x.rs.length x.ps.length x.qs.length x.h.l := by
  have hm := h.max
  unfold maxLen at hm
  exact ⟨by omega, ⟨S_of_wf h.h.op, S_of_wf h.h.vx, S_of_wf h.h.pts⟩, fun r hr => (h.h.regs r hr).wf⟩
theorem ax_cells {e er : TypeId} {f0 f1 f2 : Field} {n : Nat} {cs : List Value} {y : DataW H × List MemPlace} (hu : P.underlying e = some (.struct #[f0, f1, f2])) (h0 : P.underlying f0.type = some (.int .i64)) (h1 : P.underlying f1.type = some (.int .i64)) (h2 : P.underlying f2.type = some (.slice er))
    (o : f0.offset = 0 ∧ f1.offset = 1 ∧ f2.offset = 2) (c : P.cellsOf f0.type = 1 ∧ P.cellsOf f1.type = 1 ∧ P.cellsOf f2.type = 1) (ct : P.cellsOf e = 3) (cr : P.cellsOf er = 2)
    (hR : ∀ n cs y, DataW.trod enc P W base (fun _ => true) held n er cs = some y → ∃ r : Rc, cs = rcC r ∧ (Lit.int .u64 r.live).wf = true ∧ (Lit.int .u64 r.id).wf = true)
    (h : DataW.trod enc P W base (fun _ => true) held n e cs = some y) : ∃ x : Ax, cs = axC x ∧ AxOk W x := by
  obtain ⟨y0, y1, y2, m, _, hl, k0, k1, k2⟩ := Go.Deep.trod_struct3 hu h
  rw [ct] at hl
  rw [o.1, c.1] at k0
  rw [o.2.1, c.2.1] at k1
  rw [o.2.2, c.2.2] at k2
  match cs, hl with
  | [v0, v1, v2], _ =>
    obtain ⟨a, ha, _, wa⟩ := DataW.trod_int h0 k0
    obtain ⟨b, hb, _, wb⟩ := DataW.trod_int h1 k1
    obtain ⟨A, cp, l, hs, hrow, hwf, hlc, hmx, _⟩ := row_cells (k := 2) rcC (fun x => (Lit.int .u64 x.live).wf = true ∧ (Lit.int .u64 x.id).wf = true) h2 cr (by decide) hR k2
    simp [Value.cells] at ha hb hs
    exact ⟨⟨a, b, A, cp, l⟩, by rw [ha, hb, hs]; rfl, ⟨⟨S_of_wf wa, S_of_wf wb⟩, hrow, fun r hr => ⟨U_of_wf (hwf r hr).1, U_of_wf (hwf r hr).2⟩, Nat.le_trans hlc hmx⟩⟩
end
end Go.Proofs.YtcfdpimpleniaaaDoor
