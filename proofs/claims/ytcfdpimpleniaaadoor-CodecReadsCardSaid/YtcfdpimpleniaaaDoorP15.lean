/-
  Packed texts: Law18c, Ref18x, Ref18d.
-/
import Derived.OwnWalk
import Derived.BigQuiet
import Derived.Deep.QuietTactic
import Derived.Laws.StructEq
import Derived.Test.YtcfdpimpleniaaaDoorP14
namespace Go.Proofs.YtcfdpimpleniaaaDoor
open Go.RowKit Go.Maps
set_option maxRecDepth 100000
set_option linter.unusedVariables false
set_option linter.unusedSimpArgs false

theorem box3a {w W : World} {t : TypeId} {a b c : Value} (hW : W = w.alloc (.cells #[a, b, c] t)) :
    Below w.heap.size w W ∧ W.heap.size = w.heap.size + 1 ∧ W.cell? ⟨w.heap.size, 0, none⟩ = some a ∧ W.cell? ⟨w.heap.size, 1, none⟩ = some b ∧ W.cell? ⟨w.heap.size, 2, none⟩ = some c := by
  subst hW
  refine ⟨(Below.refl _ _).alloc (Nat.le_refl _) _, by simp, ?_, ?_, ?_⟩ <;> simp [go_sem]
theorem readA_len {h : Hq} {p : Bool} {b : List Int} {a : An} {er : Int} (e : readA h p b = (a, er)) : a.l.length ≤ 4096 := by
  unfold readA at e
  split at e
  · injection e with e1 _; rw [← e1]; simp
  rename_i hf
  split at e
  · split at e <;> (injection e with e1 _; rw [← e1]; simp)
  split at e
  · injection e with e1 _; rw [← e1]; simp
  split at e
  · rename_i h9
    injection e with e1 _
    rw [← e1]
    have hk := (formErr_ok.1 (by simpa using hf)).1
    unfold ansAt
    split
    · rename_i h5
      have := hk.pts5 h5
      simp only [listAt_len]
      omega
    · simp
  · injection e with e1 _; rw [← e1]; simp
theorem sl_low {w : World} {T : Nat → Prop} {A : Option Addr} {bs : List Int} (h : SlR w T .u8 A bs) : SlR w (fun g => g < w.heap.size) .u8 A bs := h.lt.imp fun _ h => h.2
set_option maxHeartbeats 2000000 in
theorem law_codecReads (op vx pts : Int) (hA : Option Addr) (hc : Nat) (hrs : List Rg) (A : Option Addr) (c : Nat) (bs : List Int) (hn n : Nat) (w : World) (hw : Wts w) (hh : ArgH w op vx pts hA hc hrs) (hhn : hn = hrs.length) (ha : ArgB w A c bs) (hnb : n = bs.length) :
    Calls Tryd.prog 8 #[.agg #[.int .i64 op, .int .i64 vx, .slice hA hn hc, .int .i64 pts], .slice A n c] w fun e w' => e = .returned (.bool true) ∧ Below w.heap.size w w' := by
  obtain ⟨W, hW⟩ : ∃ W, W = w.alloc (.cells #[.int .i64 op, .int .i64 vx, .slice hA hn hc, .int .i64 pts] 24) := ⟨_, rfl⟩
  obtain ⟨h0, _, g0, g1, g2, g3⟩ := box4 hW
  obtain ⟨B, hB⟩ : ∃ b, b = w.heap.size := ⟨_, rfl⟩
  rw [← hB] at g0 g1 g2 g3
  have HH := Lib.hid (hh.next h0)
  have HA := Lib.hid (ha.next h0)
  have HHN := Lib.hid hhn
  have HN := Lib.hid hnb
  have HW := Lib.hid hW
  have HB := Lib.hid hB
  have hnl : n ≤ 9223372036854775807 := by rw [hnb]; have := ha.cap; have := ha.room; omega
  have hhl : hn ≤ 9223372036854775807 := by rw [hhn]; exact hh.len
  obtain ⟨P, hP⟩ : ∃ P, readA ⟨op, vx, hrs.map rgK, pts⟩ (rgP hrs) bs = P := ⟨_, rfl⟩
  obtain ⟨a, er⟩ := P
  have HP := Lib.hid hP
  have hal := readA_len hP
  clear hW hB hh ha hhn hnb hP
  have key : ∀ q : Bool, decide (200 < (hn : Int)) = q → Calls Tryd.prog 8 #[.agg #[.int .i64 op, .int .i64 vx, .slice hA hn hc, .int .i64 pts], .slice A n c] w fun e w' => e = .returned (.bool true) ∧ Below w.heap.size w w' := by
    intro q hq
    obtain ⟨q2, hq2⟩ : ∃ q2, decide (50000 < (n : Int)) = q2 := ⟨_, rfl⟩
    by_cases hb : q = true ∨ q2 = true
    · have hbr : (q = true) ∨ (q = false ∧ q2 = true) := by cases q <;> simp_all
      rcases hbr with rfl | ⟨rfl, rfl⟩
      all_goals
        clear hb
        go_enter Tryd.func8, Tryd.ntmps8
        go_upto_region 1 with (fail)
        rw [← HW.out, ← HB.out]
        go_wp2_with (fail)
        refine (alive18_any W (hw.below h0)).mono ?_
        rintro e w2 ⟨rfl, hb2⟩
        go_wp2
        go_ret
        exact ⟨rfl, h0.trans (hb2.mono h0.size)⟩
    · obtain ⟨rfl, rfl⟩ : q = false ∧ q2 = false := by cases q <;> cases q2 <;> simp_all
      clear hb
      go_enter Tryd.func8, Tryd.ntmps8
      go_upto_region 1 with (fail)
      rw [← HW.out, ← HB.out]
      go_wp2_with (fail)
      refine (codRead_c op vx pts hA hn hc hrs A n c bs a er W (hw.below h0) (low_row HH.out.row) HHN.out hhl HH.out.num HH.out.wf (sl_low HA.out.row) HN.out HA.out.ub hnl (by rw [HN.out]; exact HA.out.cap) HP.out).mono ?_
      rintro e w1 ⟨A1, m1, c1, rfl, hm1, hr1, hb1⟩
      obtain ⟨W1, hW1⟩ : ∃ W1, W1 = w1.alloc (.cells #[.int .i64 a.v, .int .i64 a.n, .slice A1 m1 c1] 53) := ⟨_, rfl⟩
      obtain ⟨x1, _, y0, y1, y2⟩ := box3a hW1
      obtain ⟨B1, hB1⟩ : ∃ b, b = w1.heap.size := ⟨_, rfl⟩
      rw [← hB1] at y0 y1 y2
      have q1 : Below W.heap.size W W1 := hb1.trans (x1.mono hb1.size)
      have hr1 := hr1.next x1
      have HW1 := Lib.hid hW1
      have HB1 := Lib.hid hB1
      have HM1 := Lib.hid hm1
      have k0 := keepW q1 g0
      have k1 := keepW q1 g1
      have k2 := keepW q1 g2
      have k3 := keepW q1 g3
      clear hW1 hB1 hm1 hb1 x1 g0 g1 g2 g3
      go_upto_region 4 with (fail)
      rw [← HW1.out, ← HB1.out]
      go_wp2_with (fail)
      refine (ref18Read_any op vx pts hA hn hc hrs A n c bs a er W1 (low_row (HH.out.next q1).row) HHN.out hhl (sl_low (HA.out.next q1).row) HN.out HA.out.ub hnl HP.out).mono ?_
      rintro e w2 ⟨A2, m2, c2, rfl, hm2, hr2, hb2⟩
      obtain ⟨W2, hW2⟩ : ∃ W2, W2 = w2.alloc (.cells #[.int .i64 a.v, .int .i64 a.n, .slice A2 m2 c2] 55) := ⟨_, rfl⟩
      obtain ⟨x2, _, z0, z1, z2⟩ := box3a hW2
      obtain ⟨B2, hB2⟩ : ∃ b, b = w2.heap.size := ⟨_, rfl⟩
      rw [← hB2] at z0 z1 z2
      have q2 : Below W1.heap.size W1 W2 := hb2.trans (x2.mono hb2.size)
      have hr2 := hr2.next x2
      have hr1 := hr1.next q2
      have y0 := keepW q2 y0
      have y1 := keepW q2 y1
      have y2 := keepW q2 y2
      have HW2 := Lib.hid hW2
      have HB2 := Lib.hid hB2
      have HM2 := Lib.hid hm2
      have qq := (h0.trans (q1.mono h0.size)).trans (q2.mono (Nat.le_trans h0.size q1.size))
      clear hW2 hB2 hm2 hb2 x2 k0 k1 k2 k3
      go_upto_region 5 with (fail)
      rw [← HW2.out, ← HB2.out]
      go_wp2_with (fail)
      refine (alive18_any W2 (hw.below qq)).mono ?_
      rintro e w3 ⟨rfl, hb3⟩
      have y0 := keepW hb3 y0
      have y1 := keepW hb3 y1
      have y2 := keepW hb3 y2
      have z0 := keepW hb3 z0
      have z1 := keepW hb3 z1
      have z2 := keepW hb3 z2
      have q3 := qq.trans (hb3.mono qq.size)
      go_wp2_with (fail)
      refine (ref13Same_yes A1 A2 c1 c2 m1 m2 a.l _ _ w3 (hr1.next hb3) (hr2.next hb3) HM1.out HM2.out (by omega)).mono ?_
      rintro e w4 ⟨rfl, hb4⟩
      go_wp2
      go_ret
      exact ⟨rfl, q3.trans (hb4.mono q3.size)⟩
  exact key _ rfl
theorem ub_flat_ {α : Type} {B : α → List Int} {l : List α} (hB : ∀ x ∈ l, UB (B x)) : UB (l.flatMap B) := fun x hx => by
  obtain ⟨y, hy, hxy⟩ := List.mem_flatMap.1 hx
  exact hB y hy x hxy
theorem UB_rsp {h : Hq} {p : Bool} {a : An} (he : rspE h p a = 0) (hU : ∀ x ∈ a.l, U x.id) : UB (rspB h a) := by
  have hi : isA h a = true ∧ formErr h p = 0 := by
    unfold rspE at he
    by_cases e : formErr h p = 0
    · rw [if_neg (by simpa using e)] at he
      by_cases e2 : isA h a = true
      · exact ⟨e2, e⟩
      · rw [if_neg e2] at he; cases he
    · rw [if_pos e] at he; exact absurd he e
  obtain ⟨hi, hf⟩ := hi
  obtain ⟨⟨g1, g2, g3, g4, g5, g6⟩, hl⟩ := isA_parts hi
  have hk := (formErr_ok.1 hf).1
  have hmo : mostA h.op ≤ 3 := by unfold mostA; split <;> (try split) <;> omega
  have hp : h.pts ≤ 4096 := by
    by_cases e5 : h.op = 5
    · exact (hk.pts5 e5).2
    · have := hk.pts0 e5; omega
  unfold rspB
  refine UB.app (fun x hx => ?_) (UB.app ?_ (ub_flat_ fun r hr => ?_))
  · simp at hx; rcases hx with rfl | rfl <;> omega
  · split
    · intro x hx; simp at hx; rcases hx with rfl | rfl <;> omega
    · exact UB.nil
  · intro x hx
    unfold rcB at hx
    rcases List.mem_cons.1 hx with rfl | hx
    · have := hl r hr; omega
    · exact digs_ub _ _ x hx
set_option maxHeartbeats 2000000 in
theorem law_codecResponds (op vx pts : Int) (hA : Option Addr) (hc : Nat) (hrs : List Rg) (v k : Int) (B : Option Addr) (d : Nat) (l : List Rc) (hn m : Nat) (w : World) (hw : Wts w) (hh : ArgH w op vx pts hA hc hrs) (hhn : hn = hrs.length) (hl : RowR w (fun _ => True) 2 rcC B l) (hm : m = l.length) (hml : m ≤ 9223372036854775807) (hU : UsR l) (hS : S v ∧ S k) :
    Calls Tryd.prog 7 #[.agg #[.int .i64 op, .int .i64 vx, .slice hA hn hc, .int .i64 pts], .agg #[.int .i64 v, .int .i64 k, .slice B m d]] w fun e w' => e = .returned (.bool true) ∧ Below w.heap.size w w' := by
  obtain ⟨W, hW⟩ : ∃ W, W = (w.alloc (.cells #[.int .i64 op, .int .i64 vx, .slice hA hn hc, .int .i64 pts] 24)).alloc (.cells #[.int .i64 v, .int .i64 k, .slice B m d] 51) := ⟨_, rfl⟩
  obtain ⟨b, hb⟩ : ∃ b, b = w.heap.size := ⟨_, rfl⟩
  have h0 : Below w.heap.size w W := by rw [hW]; exact ((Below.refl _ _).alloc (Nat.le_refl _) _).alloc (by simp) _
  have g0 : W.cell? ⟨b, 0, none⟩ = some (.int .i64 op) := by rw [hW, hb]; simp [go_sem]
  have g1 : W.cell? ⟨b, 1, none⟩ = some (.int .i64 vx) := by rw [hW, hb]; simp [go_sem]
  have g2 : W.cell? ⟨b, 2, none⟩ = some (.slice hA hn hc) := by rw [hW, hb]; simp [go_sem]
  have g3 : W.cell? ⟨b, 3, none⟩ = some (.int .i64 pts) := by rw [hW, hb]; simp [go_sem]
  have a0 : W.cell? ⟨b + 1, 0, none⟩ = some (.int .i64 v) := by rw [hW, hb]; simp [go_sem]
  have a1 : W.cell? ⟨b + 1, 1, none⟩ = some (.int .i64 k) := by rw [hW, hb]; simp [go_sem]
  have a2 : W.cell? ⟨b + 1, 2, none⟩ = some (.slice B m d) := by rw [hW, hb]; simp [go_sem]
  have HH := Lib.hid (hh.next h0)
  have HL := Lib.hid (hl.next h0)
  have HHN := Lib.hid hhn
  have HM := Lib.hid hm
  have HU := Lib.hid hU
  have HS := Lib.hid hS
  have HW := Lib.hid hW
  have HB := Lib.hid hb
  have hhl : hn ≤ 9223372036854775807 := by rw [hhn]; exact hh.len
  obtain ⟨er, her⟩ : ∃ er, rspE ⟨op, vx, hrs.map rgK, pts⟩ (rgP hrs) ⟨v, k, l⟩ = er := ⟨_, rfl⟩
  obtain ⟨bs, hbs⟩ : ∃ bs, (if er = 0 then rspB ⟨op, vx, hrs.map rgK, pts⟩ ⟨v, k, l⟩ else []) = bs := ⟨_, rfl⟩
  have HE := Lib.hid her
  have HBS := Lib.hid hbs
  clear hW hb hh hl hhn hm her hbs hU hS
  obtain ⟨q, hq⟩ : ∃ q, decide (200 < (hn : Int)) = q := ⟨_, rfl⟩
  obtain ⟨q2, hq2⟩ : ∃ q2, decide (5000 < (m : Int)) = q2 := ⟨_, rfl⟩
  by_cases hbq : q = true ∨ q2 = true
  · have hbr : (q = true) ∨ (q = false ∧ q2 = true) := by cases q <;> simp_all
    rcases hbr with rfl | ⟨rfl, rfl⟩
    all_goals
      clear hbq
      go_enter Tryd.func7, Tryd.ntmps7
      go_upto_region 1 with (fail)
      rw [← HW.out, ← HB.out]
      go_wp2_with (fail)
      refine (alive18_any W (hw.below h0)).mono ?_
      rintro e w2 ⟨rfl, hb2⟩
      go_wp2
      go_ret
      exact ⟨rfl, h0.trans (hb2.mono h0.size)⟩
  · obtain ⟨rfl, rfl⟩ : q = false ∧ q2 = false := by cases q <;> cases q2 <;> simp_all
    have hm5 : m ≤ 5000 := by have := of_decide_eq_false hq2; omega
    clear hbq
    go_enter Tryd.func7, Tryd.ntmps7
    go_upto_region 1 with (fail)
    rw [← HW.out, ← HB.out]
    go_wp2_with (fail)
    refine (codRespond_c op vx pts hA hn hc hrs v k B m d l er bs W (hw.below h0) (low_row HH.out.row) HHN.out hhl HH.out.num HH.out.wf ((HL.out.now (fun _ => by simp [rcC])).imp fun _ h => h.2) HM.out hml HU.out HS.out HE.out HBS.out).mono ?_
    rintro e w1 ⟨v1, rfl, hown1, hb1⟩
    obtain ⟨A1, n1, c1, rfl, hn1, hnc1, hcm1, hs1, _⟩ := own_b hown1
    have HN1 := Lib.hid hn1
    have HNC := Lib.hid (And.intro hnc1 hcm1)
    have q1 := h0.trans (hb1.mono h0.size)
    have k0 := keepW hb1 g0
    have k1 := keepW hb1 g1
    have k2 := keepW hb1 g2
    have k3 := keepW hb1 g3
    have k4 := keepW hb1 a0
    have k5 := keepW hb1 a1
    have k6 := keepW hb1 a2
    clear hown1 hn1 hnc1 hcm1 g0 g1 g2 g3 a0 a1 a2
    go_wp2_with (fail)
    refine (ref18Respond_any op vx pts hA hn hc hrs v k B m d l er bs w1 (low_row (HH.out.next hb1).row) HHN.out hhl (((HL.out.next hb1).now (fun _ => by simp [rcC])).imp fun _ h => h.2) HM.out hml HU.out HE.out HBS.out).mono ?_
    rintro e w2 ⟨v2, rfl, hown2, hb2⟩
    obtain ⟨A2, n2, c2, rfl, hn2, _, _, hs2, _⟩ := own_b hown2
    have HN2 := Lib.hid hn2
    have q2 := q1.trans (hb2.mono q1.size)
    have hb12 := hb1.trans (hb2.mono hb1.size)
    have hs1 := hs1.next hb2
    have k0 := keepW hb2 k0
    have k1 := keepW hb2 k1
    have k2 := keepW hb2 k2
    have k3 := keepW hb2 k3
    have k4 := keepW hb2 k4
    have k5 := keepW hb2 k5
    have k6 := keepW hb2 k6
    clear hown2 hn2 hb1
    go_wp2_with (fail)
    refine (equalB_yes A1 A2 n1 n2 c1 c2 bs _ _ w2 hs1 hs2 HN1.out HN2.out).mono ?_
    rintro e w3 ⟨rfl, hw3⟩
    obtain rfl := hw3.symm
    by_cases he : er = 0
    · have HRD := Lib.hid (show readA ⟨op, vx, hrs.map rgK, pts⟩ (rgP hrs) bs = (⟨v, k, l⟩, 0) by
        rw [← HBS.out, if_pos he]; exact read_rsp (HE.out.trans he) fun x hx => (HU.out x hx).2)
      have HUB := Lib.hid (show UB bs by rw [← HBS.out, if_pos he]; exact UB_rsp (HE.out.trans he) fun x hx => (HU.out x hx).2)
      have hn1b : n1 ≤ 9223372036854775807 := Nat.le_trans HNC.out.1 (Nat.le_trans HNC.out.2 (by decide))
      subst he
      go_wp2_with (fail)
      refine (codRead_c op vx pts hA hn hc hrs A1 n1 c1 bs ⟨v, k, l⟩ 0 w2 (hw.below q2) (low_row (HH.out.next hb12).row) HHN.out hhl HH.out.num HH.out.wf (sl_low hs1) HN1.out HUB.out hn1b HNC.out.1 HRD.out).mono ?_
      rintro e w4 ⟨A4, m4, c4, rfl, hm4, hr4, hb4⟩
      obtain ⟨W4, hW4⟩ : ∃ W4, W4 = w4.alloc (.cells #[.int .i64 v, .int .i64 k, .slice A4 m4 c4] 53) := ⟨_, rfl⟩
      obtain ⟨x4, _, y0, y1, y2⟩ := box3a hW4
      obtain ⟨B4, hB4⟩ : ∃ b, b = w4.heap.size := ⟨_, rfl⟩
      rw [← hB4] at y0 y1 y2
      have q4 : Below w2.heap.size w2 W4 := hb4.trans (x4.mono hb4.size)
      have hr4 := hr4.next x4
      have HW4 := Lib.hid hW4
      have HB4 := Lib.hid hB4
      have HM4 := Lib.hid hm4
      have k4 := keepW q4 k4
      have k5 := keepW q4 k5
      have k6 := keepW q4 k6
      have qq := q2.trans (q4.mono q2.size)
      have hrl := (HL.out.next hb12).next q4
      clear hW4 hB4 hm4 hb4 x4 k0 k1 k2 k3
      go_upto_region 10 with (fail)
      rw [← HW4.out, ← HB4.out]
      go_wp2_with (fail)
      refine (alive18_any W4 (hw.below qq)).mono ?_
      rintro e w5 ⟨rfl, hb5⟩
      have y0 := keepW hb5 y0
      have y1 := keepW hb5 y1
      have y2 := keepW hb5 y2
      have k4 := keepW hb5 k4
      have k5 := keepW hb5 k5
      have k6 := keepW hb5 k6
      have q5 := qq.trans (hb5.mono qq.size)
      go_wp2_with (fail)
      refine (ref13Same_yes A4 B c4 d m4 m l _ _ w5 (hr4.next hb5) (hrl.next hb5) HM4.out HM.out (by have := HM.out; omega)).mono ?_
      rintro e w6 ⟨rfl, hb6⟩
      go_wp2
      go_ret
      exact ⟨rfl, q5.trans (hb6.mono q5.size)⟩
    · have dn : (er != 0) = true := by rw [bne_iff_ne]; exact he
      clear he
      go_wp2_with (fail)
      refine (alive18_any w2 (hw.below q2)).mono ?_
      rintro e w4 ⟨rfl, hb4⟩
      go_wp2
      go_ret
      exact ⟨rfl, q2.trans (hb4.mono q2.size)⟩
end Go.Proofs.YtcfdpimpleniaaaDoor
namespace Go.Proofs.YtcfdpimpleniaaaDoor
open Go.RowKit
set_option maxRecDepth 100000
set_option linter.unusedVariables false
set_option linter.unusedSimpArgs false

theorem infoQr : (Tryd.prog.info? 73).map (fun i => (i.zero, i.size, i.bytes)) = some (some (.agg #[.int .i64 0, .int .i64 0, .int .u64 0]), 3, 24) := by kernel_rfl
theorem elemQr : ElemT Tryd.prog 26 73 3 qrC := by
  obtain ⟨i0, hi, hz0, hz1, hz2⟩ := info_parts infoQr
  exact ⟨Tryd.underlying26, ⟨i0, _, hi, hz0, hz1, by rw [hz2]; decide, rfl⟩, by decide, fun _ => rfl, fun x u hu => by simp [qrC] at hu; rcases hu with rfl | rfl | rfl <;> rfl⟩
structure QuR (W : World) (b8 : Nat) (bs : List Int) (op vx pts : Int) (hsl V ps : Value) (oN j : Nat) (U : Value) (wr : World) : Prop where
  box : Box7 wr b8 (.int .i64 op) (.int .i64 vx) hsl (.int .i64 pts) V ps U 38
  row : wr.ownsRow W.heap.size 73 3 U (listAt (qrAt bs) oN j 24).length ((listAt (qrAt bs) oN j 24).flatMap qrC)
  moved : Moved (fun g => g = b8) W wr
/-- The points of the regions so far: off the box and off the row that grows. -/
def OffR (W5 : World) (b8 : Nat) (V : Value) (wr : World) (g : Nat) : Prop := W5.heap.size ≤ g ∧ g < wr.heap.size ∧ g ≠ b8 ∧ ¬ V.ownBlock = some g
structure DecR (w W5 : World) (b8 : Nat) (bs : List Int) (op vx pts : Int) (hsl : Value) (ks : List (Bool × Int)) (m0 k : Nat) (V : Value) (rows : List Rg) (wr : World) : Prop where
  box : Box7 wr b8 (.int .i64 op) (.int .i64 vx) hsl (.int .i64 pts) V (.slice none 0 0) (.slice none 0 0) 38
  row : wr.ownsRow W5.heap.size 63 3 V rows.length (rows.flatMap rgC)
  said : rows.map rgD = regsAt bs (ks.take k) m0
  oks : RegsOk wr (OffR W5 b8 V wr) rows
  moved : Moved (fun g => g = b8) W5 wr
theorem DecR.step {w W5 : World} {b8 : Nat} {bs : List Int} {op vx pts : Int} {hsl : Value} {ks : List (Bool × Int)} {m0 k : Nat} {V V' : Value} {rows : List Rg} {wr wf : World} {r : Rg}
    (h : DecR w W5 b8 bs op vx pts hsl ks m0 k V rows wr) (hmv : Moved (fun g => g = b8 ∨ V.ownBlock = some g) wr wf)
    (hbox : Box7 wf b8 (.int .i64 op) (.int .i64 vx) hsl (.int .i64 pts) V' (.slice none 0 0) (.slice none 0 0) 38)
    (hrow : wf.ownsRow W5.heap.size 63 3 V' (rows ++ [r]).length ((rows ++ [r]).flatMap rgC)) (hown : ∀ g, V'.ownBlock = some g → V.ownBlock = some g ∨ wr.heap.size ≤ g)
    (hr : RegOk wf (OffR W5 b8 V' wf) r) (hs : regsAt bs (ks.take (k + 1)) m0 = regsAt bs (ks.take k) m0 ++ [rgD r]) : DecR w W5 b8 bs op vx pts hsl ks m0 (k + 1) V' (rows ++ [r]) wf := by
  refine ⟨hbox, hrow, by rw [List.map_append, h.said, hs]; rfl, fun x hx => ?_, ?_⟩
  · rcases List.mem_append.1 hx with hx | hx
    · obtain ⟨h1, h2, h3, h4⟩ := h.oks x hx
      refine ⟨(h1.keep (w' := wf) fun g hg hlt => hmv.block g hlt (fun e => by rcases e with e | e; exact hg.2.2.1 e; exact hg.2.2.2 e)).imp fun g hg => ?_, h2, h3, h4⟩
      obtain ⟨o1, o2, o3, o4⟩ := hg
      exact ⟨o1, Nat.lt_of_lt_of_le o2 hmv.size, o3, fun e => by rcases hown g e with e | e; exact o4 e; omega⟩
    · rw [List.mem_singleton.1 hx]; exact hr
  · have hsz := h.moved.size
    refine ⟨hmv.os.trans h.moved.os, hmv.tape.trans h.moved.tape, hmv.output.trans h.moved.output, Nat.le_trans hsz hmv.size, fun g hg hn => ?_⟩
    exact (hmv.block g (by omega) (fun e => by rcases e with e | e; exact hn e; have := (World.ownsRow.lt h.row g e).1; omega)).trans (h.moved.block g hg hn)
def DecRel (w W5 : World) (b8 : Nat) (bs : List Int) (op vx pts : Int) (hsl : Value) (ks : List (Bool × Int)) (m0 : Nat) (i at_ : Value) (wr : World) : Prop :=
  ∃ (k : Nat) (V : Value) (rows : List Rg), i = .int .i64 k ∧ at_ = .int .i64 (m0 + 16 * ptsK (ks.take k) : Int) ∧ k ≤ ks.length ∧ DecR w W5 b8 bs op vx pts hsl ks m0 k V rows wr
set_option maxHeartbeats 1000000 in
theorem ref18Decode_any (A : Option Addr) (n c : Nat) (bs : List Int) (T : Nat → Prop) (er : Int) (D : Rqd) (w : World) (hb : SlR w T .u8 A bs) (hn : n = bs.length) (hU : UB bs) (hl : n ≤ 9223372036854775807) (he : classH bs = er) (hD : (if er = 0 then decR bs else ⟨⟨0, 0, [], 0⟩, [], [], []⟩) = D) :
    Calls Tryd.prog 15 #[.slice A n c] w (GivesRq w D er) := by
  obtain ⟨W, hW⟩ : ∃ W, W = w.alloc (.cells #[.int .i64 0, .int .i64 0, .slice none 0 0, .int .i64 0, .slice none 0 0, .slice none 0 0, .slice none 0 0] 38) := ⟨_, rfl⟩
  obtain ⟨b, hb0⟩ : ∃ b, b = w.heap.size := ⟨_, rfl⟩
  have h0 : Below w.heap.size w W := by rw [hW]; exact (Below.refl _ _).alloc (Nat.le_refl _) _
  have hbx : Box7 W b (.int .i64 0) (.int .i64 0) (.slice none 0 0) (.int .i64 0) (.slice none 0 0) (.slice none 0 0) (.slice none 0 0) 38 := by rw [hW, hb0]; exact Box7.new
  have HSL := Lib.hid (hb.lt.next h0)
  have HN := Lib.hid hn
  have HW := Lib.hid hW
  have HB := Lib.hid hb0
  have HE := Lib.hid he
  have HD := Lib.hid hD
  have hbw : w.heap.size ≤ b := by omega
  clear hb hn hW hb0 he hD
  go_enter Tryd.func15, Tryd.ntmps15
  go_upto_region 1 with (fail)
  rw [← HW.out, ← HB.out]
  go_wp2_with (fail)
  refine (ref17Classify_any A n c bs _ er W HSL.out HN.out hU hl HE.out).mono ?_
  rintro e w1 ⟨rfl, hb1⟩
  have hbx1 := hbx.same (hb1.block b hbx.lt)
  have hw1 := h0.trans (hb1.mono h0.size)
  have hbw1 : b < w1.heap.size := hbx1.lt
  obtain ⟨⟨y0, y1, y2, y3, y4, y5, y6⟩, f0, f1, f2, f3, f4, f5, f6⟩ := hbx1.at_
  have HBX := Lib.hid hbx1
  clear hbx hbx1
  by_cases hf : er = 0
  · subst hf
    have HD2 := Lib.hid (show decR bs = D by have := HD.out; rwa [if_pos rfl] at this)
    obtain ⟨P, hP⟩ : ∃ P, parseH bs = P := ⟨_, rfl⟩
    have hcl := HE.out
    unfold classH at hcl
    have hok := parse_ok (b := bs) hU
    rw [hP] at hcl hok
    by_cases hpe : P.e = 0
    · rw [if_pos hpe] at hcl
      have hbk := hok hpe
      obtain ⟨⟨op, vx, ks, pts⟩, m0, pe⟩ := P
      simp only at hpe hcl
      subst hpe
      have hlen : (bs.length : Int) = m0 + payL ⟨op, vx, ks, pts⟩ := by
        by_cases h : (bs.length : Int) = m0 + payL ⟨op, vx, ks, pts⟩
        · exact h
        · rw [if_neg h] at hcl; exact absurd hcl (by decide)
      have hk := hbk.ok
      simp only at hk
      rw [payL_eq hk] at hlen
      simp only at hlen
      have hcn := cnt_nn hk
      obtain ⟨p, hp⟩ : ∃ p, cntP ⟨op, vx, ks, pts⟩ = p := ⟨_, rfl⟩
      obtain ⟨q, hq⟩ : ∃ q, cntQ ⟨op, vx, ks, pts⟩ = q := ⟨_, rfl⟩
      rw [hp, hq] at hlen hcn
      have HK := Lib.hid hk
      have HPQ := Lib.hid (And.intro hp hq)
      have HP := Lib.hid hP
      have hlen2 : (n : Int) = m0 + (16 * ptsK ks + 16 * p + 24 * q) := by rw [HN.out]; exact hlen
      have HLEN := Lib.hid hlen2
      clear hbk hok hcl hk hp hq hP hlen hlen2
      go_wp2_with (fail)
      refine (ref17Parse_any A n c bs _ _ w1 (HSL.out.next hb1) HN.out hU hl HP.out).mono ?_
      rintro e w2 ⟨hA, hn2, hc2, hrs, rfl, hhn, hrow, hks, hrp, hb2⟩
      simp only at hks
      obtain ⟨W5, hW5⟩ : ∃ W5, W5 = (w2.alloc (.cells #[.int .i64 op, .int .i64 vx, .slice hA hn2 hc2, .int .i64 pts] 24)).alloc (.cells #[.int .i64 op, .int .i64 vx, .slice hA hn2 hc2, .int .i64 pts, .slice none 0 0, .slice none 0 0, .slice none 0 0] 38) := ⟨_, rfl⟩
      obtain ⟨b5, hb5⟩ : ∃ b5, b5 = w2.heap.size := ⟨_, rfl⟩
      have h25 : Below w2.heap.size w2 W5 := by rw [hW5]; exact ((Below.refl _ _).alloc (Nat.le_refl _) _).alloc (by simp) _
      have hs5 : W5.heap.size = b5 + 2 := by rw [hW5, hb5]; simp
      have g0 : W5.cell? ⟨b5, 0, none⟩ = some (.int .i64 op) := by rw [hW5, hb5]; simp [go_sem]
      have g1 : W5.cell? ⟨b5, 1, none⟩ = some (.int .i64 vx) := by rw [hW5, hb5]; simp [go_sem]
      have g2 : W5.cell? ⟨b5, 2, none⟩ = some (.slice hA hn2 hc2) := by rw [hW5, hb5]; simp [go_sem]
      have g3 : W5.cell? ⟨b5, 3, none⟩ = some (.int .i64 pts) := by rw [hW5, hb5]; simp [go_sem]
      have hbx8 : Box7 W5 (b5 + 1) (.int .i64 op) (.int .i64 vx) (.slice hA hn2 hc2) (.int .i64 pts) (.slice none 0 0) (.slice none 0 0) (.slice none 0 0) 38 := by
        rw [hW5, hb5]; have := Box7.new (w := w2.alloc (.cells #[.int .i64 op, .int .i64 vx, .slice hA hn2 hc2, .int .i64 pts] 24)) (x0 := .int .i64 op) (x1 := .int .i64 vx) (x2 := .slice hA hn2 hc2) (x3 := .int .i64 pts) (x4 := .slice none 0 0) (x5 := .slice none 0 0) (x6 := .slice none 0 0) (t := 38); simpa using this
      have hb15 : Below w1.heap.size w1 W5 := hb2.trans (h25.mono hb2.size)
      have hbW5 : Below W.heap.size W W5 := hb1.trans (hb15.mono hb1.size)
      have hw5 : Below w.heap.size w W5 := h0.trans (hbW5.mono h0.size)
      have hbx5 := HBX.out.same (hb15.block b (HBX.out.lt))
      have hb5s : w1.heap.size ≤ b5 := by rw [hb5]; exact hb2.size
      have hbb5 : b < b5 := by have := HBX.out.lt; omega
      have hWs5 : W.heap.size ≤ b5 := Nat.le_trans hb1.size hb5s
      have HRW := Lib.hid (((hrow.now (fun _ => by simp [rgC])).imp (fun g hg => (show w1.heap.size ≤ g ∧ g < b5 from ⟨hg.1, by rw [hb5]; exact hg.2⟩))).next h25)
      have HW5 := Lib.hid hW5
      have HB5 := Lib.hid hb5
      have HHN := Lib.hid hhn
      have HKS := Lib.hid hks
      have HRP := Lib.hid hrp
      have HB0 := Lib.hid hbx5
      clear hW5 hb5 hrow hhn hks hrp hbx5 y0 y1 y2 y3 y4 y5 y6 f0 f1 f2 f3 f4 f5 f6 HBX h25
      go_upto_region 6 with (fail)
      rw [← HW5.out, ← HB5.out]
      go_wp2
      go_loopw [6, 9] (fun at_ i wr => DecRel w W5 (b5 + 1) bs op vx pts (.slice hA hn2 hc2) ks m0 i at_ wr) (fun _ i _ => hn2 - (intOf i).toNat)
      case atStart => exact ⟨0, _, [], rfl, by simp [ptsK], Nat.zero_le _, hbx8, World.ownsRow_nil _ _ _ _, rfl, (fun _ h => by cases h), Moved.refl _ _⟩
      case round =>
        clear hbx8
        obtain ⟨k, V, rows, rfl, rfl, hkk, hdr⟩ := hrel
        have hbwr : Below W.heap.size W wr := hdr.moved.below hbW5 (fun g hg => by omega) hbW5.size
        have hws := hdr.moved.size
        have j2 := (hdr.moved.cell (p := ⟨b5, 2, none⟩) (lt_of_cell g2) (by simp)).trans g2
        obtain ⟨⟨k0, k1, k2, k3, k4, k5, k6⟩, u0, u1, u2, u3, u4, u5, u6⟩ := hdr.box.at_
        have HHL := Lib.hid (show hn2 = ks.length by rw [HHN.out, ← HKS.out, List.length_map])
        have HDR := Lib.hid hdr
        by_cases hgo : k < hn2
        · have hk1 : k < hrs.length := by rw [← HHN.out]; exact hgo
          have hk2 : k < ks.length := by rw [← HHL.out]; exact hgo
          obtain ⟨x, hx⟩ : ∃ x, hrs[k] = x := ⟨_, rfl⟩
          have hkx : ks[k] = rgK x := by simp only [← HKS.out, List.getElem_map, hx]
          obtain ⟨bh, oh, rfl, hTb, e0, e1, e2⟩ := (HRW.out.keep (w' := wr) fun g hg hlt => hdr.moved.block g hlt (by have := hg.2; omega)).rg2 hk1
          rw [hx] at e0 e1 e2
          obtain ⟨sz, hsz⟩ : ∃ sz, sizeF x.v = sz := ⟨_, rfl⟩
          have hszb := sizeF_bd x.v
          rw [hsz] at hszb
          have HRS := Lib.hid (regsAt_snoc bs hk2 m0)
          have HPS := Lib.hid (ptsK_at hk2)
          rw [hkx] at HRS HPS
          have hpt := ptsK_part ks (k + 1)
          have ha0 := ptsK_nn (ks.take k)
          rw [HPS.out] at hpt
          obtain ⟨a, ha⟩ : ∃ a, ptsK (ks.take k) = a := ⟨_, rfl⟩
          have hle : (m0 : Int) + 16 * a + 16 * sz ≤ n := by
            have h1 := HLEN.out
            have h2 : ptsK (ks.take k) + sizeF x.v ≤ ptsK ks := hpt
            rw [ha, hsz] at h2
            have h3 := hcn
            omega
          rw [ha] at ha0 HRS HPS ⊢
          have HA := Lib.hid ha
          have HPS2 := Lib.hid (show ptsK (ks.take (k + 1)) = a + sz by rw [HPS.out]; exact congrArg _ hsz)
          obtain ⟨aN, haN⟩ : ∃ aN : Nat, aN = m0 + 16 * a.toNat := ⟨_, rfl⟩
          obtain ⟨at_, hat⟩ : ∃ at_ : Int, at_ = m0 + 16 * a := ⟨_, rfl⟩
          have hatN : at_ = (aN : Int) := by omega
          obtain ⟨sN, hsN⟩ : ∃ sN : Nat, sN = sz.toNat := ⟨_, rfl⟩
          have hszN : sz = (sN : Int) := by omega
          obtain ⟨L, hL⟩ : ∃ L, listAt (ptAt bs) aN sN 16 = L := ⟨_, rfl⟩
          have hLl : L.length = sN := by rw [← hL]; exact listAt_len _ _ _ _
          have HL := Lib.hid hL
          have HRS2 := Lib.hid (show regsAt bs (ks.take (k + 1)) m0 = regsAt bs (ks.take k) m0 ++ [(rgK x, L)] by
            rw [HRS.out, ← hL, haN, hsN, ← hsz]; rfl)
          have hle2 : aN + sN * 16 ≤ n := by omega
          rw [← hat]
          have HAT := Lib.hid (And.intro hat (And.intro haN hszN))
          obtain ⟨d, hd⟩ : ∃ d, x.d = d := ⟨_, rfl⟩
          obtain ⟨v, hv⟩ : ∃ v, x.v = v := ⟨_, rfl⟩
          obtain ⟨xA, hxA⟩ : ∃ y, x.A = y := ⟨_, rfl⟩
          obtain ⟨xm, hxm⟩ : ∃ y, x.l.length = y := ⟨_, rfl⟩
          obtain ⟨xc, hxc⟩ : ∃ y, x.c = y := ⟨_, rfl⟩
          rw [hd] at e0
          rw [hv] at e1 hsz
          have HSVv := Lib.hid (show S v by rw [← hv]; exact okh_vS HK.out (x := rgK x) (by rw [← hkx]; exact List.getElem_mem hk2))
          rw [hxA, hxm, hxc] at e2
          have HX := Lib.hid (And.intro hd hv)
          have HSZ := Lib.hid hsz
          have hslw := HSL.out.next hbwr
          have HSN := Lib.hid hszN
          have HLS := Lib.hid (show SsP L by rw [← hL]; exact ptsAt_S hU fun i hi => by rw [← HN.out]; omega)
          have HAN := Lib.hid hatN
          have HLL := Lib.hid hLl
          have hsN0 : sN ≤ 100000 := by omega
          clear hszN hatN hLl ha hat haN hsN hL hd hv hxA hxm hxc hsz hkx hx HRS hpt
          obtain ⟨W9, hW9⟩ : ∃ W9, W9 = wr.alloc (.cells #[.bool d, .int .i64 v, .slice xA xm xc] 63) := ⟨_, rfl⟩
          obtain ⟨g9, hg9⟩ : ∃ g, g = wr.heap.size := ⟨_, rfl⟩
          have hs9 : W9.heap.size = g9 + 1 := by rw [hW9, hg9, World.size_alloc]
          have hb9 : Below g9 wr W9 := by rw [hW9, hg9]; exact (Below.refl _ _).alloc (Nat.le_refl _) _
          have z0 : BoxT W9 g9 (.bool d) (.int .i64 v) (.slice xA xm xc) 63 := by rw [hW9, hg9]; exact heap_alloc_new wr _
          have HW9 := Lib.hid hW9
          have HG9 := Lib.hid hg9
          clear hW9 hg9
          go_upto_region 10 with (fail)
          rw [← HW9.out, ← HG9.out]
          obtain ⟨⟨q0, q1, q2⟩, r0, r1, r2⟩ := z0.at_
          go_wp2_with (fail)
          refine (ref16Size_any v sz W9 HSZ.out).mono ?_
          rintro e w' ⟨rfl, hw'⟩
          obtain rfl := hw'.symm
          go_wp2_with (fail)
          refine (ref18Points_any A n c bs _ aN sN 16 at_ sz 16 L W9 (hslw.next (by rw [← HG9.out]; exact hb9)) HN.out hU hl HAN.out HSN.out rfl (.inl rfl) hle2 hsN0 HL.out).mono ?_
          rintro e w3 ⟨v3, rfl, hown3, hb3⟩
          rw [← HLL.out] at hown3
          obtain ⟨A3, c3, rfl, hlc3, hcm3, hr3, hnil3⟩ := own_rowR (C := ptC) ptC_len hown3
          have hb5g : b5 + 1 < g9 := by rw [HG9.out]; omega
          have hz3 := z0.same (hb3.block g9 (by omega))
          have hbx3 := HDR.out.box.same ((hb3.block (b5 + 1) (by omega)).trans (hb9.block (b5 + 1) hb5g))
          have hg3 := Nat.lt_of_lt_of_le (by rw [hs9]; exact Nat.lt_succ_self g9 : g9 < W9.heap.size) hb3.size
          obtain ⟨W10, hW10⟩ : ∃ W10, W10 = w3.setCell ⟨g9, 2, none⟩ (.slice A3 L.length c3) := ⟨_, rfl⟩
          have hz10 : BoxT W10 g9 (.bool d) (.int .i64 v) (.slice A3 L.length c3) 63 := by rw [hW10]; exact (hz3.set _).2.2
          have hbx10 : Box7 W10 (b5 + 1) (.int .i64 op) (.int .i64 vx) (.slice (some ⟨bh, oh, none⟩) hn2 hc2) (.int .i64 pts) V (.slice none 0 0) (.slice none 0 0) 38 := hbx3.same (by rw [hW10]; exact Below.heap_setCell _ _ _ _ (by show b5 + 1 ≠ g9; omega))
          have hb39 : Below g9 w3 W10 := by rw [hW10]; exact (Below.refl _ _).setCell (p := ⟨g9, 2, none⟩) (Nat.le_refl _) _
          have hb10 : Below g9 wr W10 := hb9.trans ((hb3.mono (by omega)).trans hb39)
          have hsz10 : W10.heap.size = w3.heap.size := by rw [hW10]; simp
          have hVl : ∀ g, V.ownBlock = some g → W5.heap.size ≤ g ∧ g < g9 := fun g hg => by have := World.ownsRow.lt HDR.out.row g hg; rw [HG9.out]; exact this
          have hrow10 := row_keep (w' := W10) HDR.out.row fun g hg => hb10.block g (hVl g hg).2
          have hpr : RowR W10 (fun g => g9 < g ∧ g < W10.heap.size) 2 ptC A3 L := by
            have hlt3 : ∀ g, (Value.slice A3 L.length c3).ownBlock = some g → g9 < g ∧ g < w3.heap.size := fun g hg => by have := World.ownsRow.lt hown3 g hg; omega
            refine (hr3.keep (w' := W10) fun g hg hlt => ?_).imp fun g hg => by have := hlt3 g hg; omega
            rw [hW10]
            exact Below.heap_setCell _ _ _ _ (by show g ≠ g9; have := hlt3 g hg; omega)
          have HR3 := Lib.hid hpr
          have HNIL := Lib.hid hnil3
          have HW10 := Lib.hid hW10
          have hrl : rows.length = k := by
            have h1 := congrArg List.length HDR.out.said
            rw [List.length_map, regsAt_len, List.length_take] at h1
            omega
          have hk64 : k < 64 := by
            have h1 := HK.out.len
            have h2 := HK.out.len0
            simp only at h1 h2
            have h3 : ks.length ≤ 64 := by
              by_cases h : 4 ≤ op
              · exact (h1 h).2
              · rw [h2 (by omega)]; simp
            omega
          have hrl2 : rows.length + 1 ≤ 1000000 := by omega
          have HRL := Lib.hid hrl
          obtain ⟨⟨q0, q1, q2⟩, r0, r1, r2⟩ := hz10.at_
          obtain ⟨⟨k0, k1, k2, k3, k4, k5, k6⟩, u0, u1, u2, u3, u4, u5, u6⟩ := hbx10.at_
          have e16 : IntKind.i64.wrap (16 * sz) = 16 * sz := wrap_i64' (by omega) (by omega)
          obtain ⟨at2, hat2⟩ : ∃ at2, at2 = at_ + 16 * sz := ⟨_, rfl⟩
          have eat : IntKind.i64.wrap (at_ + 16 * sz) = at2 := by rw [hat2]; have := HAT.out; exact wrap_i64' (by omega) (by omega)
          have HAT2 := Lib.hid hat2
          have hbs10 : W5.heap.size ≤ W10.heap.size := by have := hb3.size; omega
          have hb5V : ¬ V.ownBlock = some (b5 + 1) := fun e => by have := (hVl _ e).1; omega
          have HKEY := Lib.hid (show ∀ v' w6, w6.ownsRow W5.heap.size 63 3 v' (rows.length + 1) (rows.flatMap rgC ++ [(⟨d, v, A3, c3, L⟩ : Rg)].flatMap rgC) → World.grownBy (W10.alloc (.cells (([(⟨d, v, A3, c3, L⟩ : Rg)].flatMap rgC).toArray) 63)) w6 V.ownBlock → (v'.ownBlock = V.ownBlock ∨ v'.ownBlock = some (W10.alloc (.cells (([(⟨d, v, A3, c3, L⟩ : Rg)].flatMap rgC).toArray) 63)).heap.size) →
              ∃ A6 m6 c6, v' = .slice A6 m6 c6 ∧ Box7 w6 (b5 + 1) (.int .i64 op) (.int .i64 vx) (.slice (some ⟨bh, oh, none⟩) hn2 hc2) (.int .i64 pts) V (.slice none 0 0) (.slice none 0 0) 38 ∧ DecR w W5 (b5 + 1) bs op vx pts (.slice (some ⟨bh, oh, none⟩) hn2 hc2) ks m0 (k + 1) (.slice A6 m6 c6) (rows ++ [(⟨d, v, A3, c3, L⟩ : Rg)]) (w6.setCell ⟨b5 + 1, 4, none⟩ (.slice A6 m6 c6)) by
            intro v' w6 hown6 hgrow6 hnew6
            have hrowF : w6.ownsRow W5.heap.size 63 3 v' (rows ++ [(⟨d, v, A3, c3, L⟩ : Rg)]).length ((rows ++ [(⟨d, v, A3, c3, L⟩ : Rg)]).flatMap rgC) := by rw [List.length_append, List.flatMap_append]; exact hown6
            obtain ⟨A6, c6, hv6, _⟩ := own_rowR (C := rgC) rgC_len hrowF
            obtain ⟨m6, hm6⟩ : ∃ m6, m6 = (rows ++ [(⟨d, v, A3, c3, L⟩ : Rg)]).length := ⟨_, rfl⟩
            rw [← hm6] at hv6
            subst hv6
            have hlt6 : ∀ g, (Value.slice A6 m6 c6).ownBlock = some g → V.ownBlock = some g ∨ W10.heap.size ≤ g := fun g hg => by
              rcases hnew6 with h | h
              · exact .inl (h ▸ hg)
              · rw [h] at hg; injection hg with hg; exact .inr (by rw [← hg]; simp)
            have hkeep6 : ∀ g, g < W10.heap.size → ¬ V.ownBlock = some g → w6.heap[g]? = W10.heap[g]? := fun g h1 h2 => (hgrow6.block g (by simp; omega) (fun e => h2 e.symm)).trans (Below.heap_alloc _ _ _ h1)
            have hbx6 := hbx10.same (hkeep6 (b5 + 1) (by omega) hb5V)
            have hWfb := (hbx6.set4 (.slice A6 m6 c6))
            have hs6 : W10.heap.size ≤ w6.heap.size := by have := hgrow6.size; simp at this; omega
            have hne6 : ∀ g, g ≠ b5 + 1 → (w6.setCell ⟨b5 + 1, 4, none⟩ (.slice A6 m6 c6)).heap[g]? = w6.heap[g]? := fun g hg => Below.heap_setCell _ _ _ _ hg
            have hszf : (w6.setCell ⟨b5 + 1, 4, none⟩ (.slice A6 m6 c6)).heap.size = w6.heap.size := by simp
            have hmvf : Moved (fun g => g = b5 + 1 ∨ V.ownBlock = some g) wr (w6.setCell ⟨b5 + 1, 4, none⟩ (.slice A6 m6 c6)) :=
              ⟨hgrow6.os.trans hb10.os, hgrow6.tape.trans hb10.tape, hgrow6.output.trans hb10.output, by rw [hszf]; exact Nat.le_trans hb10.size hs6,
               fun g hg hn => (hne6 g (fun e => hn (.inl e))).trans ((hkeep6 g (Nat.lt_of_lt_of_le hg hb10.size) (fun e => hn (.inr e))).trans (hb10.block g (by rw [HG9.out]; exact hg)))⟩
            have hregf : RegOk (w6.setCell ⟨b5 + 1, 4, none⟩ (.slice A6 m6 c6)) (OffR W5 (b5 + 1) (.slice A6 m6 c6) (w6.setCell ⟨b5 + 1, 4, none⟩ (.slice A6 m6 c6))) ⟨d, v, A3, c3, L⟩ :=
              ⟨(HR3.out.keep (w' := w6.setCell ⟨b5 + 1, 4, none⟩ (.slice A6 m6 c6)) fun g hg _ => (hne6 g (by omega)).trans (hkeep6 g hg.2 (fun e => by have := (hVl g e).2; omega))).imp fun g hg =>
                ⟨by omega, by rw [hszf]; omega, by omega, fun e => by rcases hlt6 g e with e | e; have := (hVl g e).2; omega; omega⟩, HLS.out, HNIL.out, HSVv.out⟩
            refine ⟨A6, m6, c6, rfl, hbx6, HDR.out.step hmvf hWfb (row_keep hrowF fun g hg => hne6 g (fun e => by rcases hlt6 g hg with h | h; have := (hVl g h).1; omega; omega)) (fun g hg => by rcases hlt6 g hg with h | h; exact .inl h; exact .inr (by rw [← HG9.out]; omega)) hregf (by rw [HRS2.out]; exact congrArg _ (by unfold rgD rgK; rw [HX.out.1, HX.out.2]))⟩)
          obtain ⟨⟨p0, p1, p2⟩, s0, s1, s2⟩ := hz3.at_
          clear hsz10 hW10 hrl hat2 hpr hnil3 hr3 hown3 hz3 hbx3 hz10 hlc3 hcm3 z0 hb39
          go_upto_region 12 with (fail)
          rw [← HW10.out]
          go_wp2_with (first
            | (at_builtin; go_loud (refine wp_app_row elemRg rfl _ _ rfl W5.heap.size V rows.length (rows.flatMap rgC) rfl (World.ownsRow.alloc hrow10 _) (some ⟨W10.heap.size, 0, none⟩) 1 1 [⟨d, v, A3, c3, L⟩] (fun g => W10.heap.size ≤ g) rfl rfl (row_lit (C := rgC) rgC_len [⟨d, v, A3, c3, L⟩]) (fun h => by cases h) hrl2 (by simp; omega) ?_)
               intro v' w6 hown6 hgrow6 hnew6
               obtain ⟨A6, m6, c6, rfl, hbx6, hst⟩ := HKEY.out v' w6 hown6 hgrow6 hnew6
               have HST := Lib.hid hst
               obtain ⟨⟨l0, l1, l2, l3, l4, l5, l6⟩, t0, t1, t2, t3, t4, t5, t6⟩ := hbx6.at_
               clear hst hbx6 hown6 hgrow6 hnew6 k0 k1 k2 k3 k4 k5 k6 u0 u1 u2 u3 u4 u5 u6 q0 q1 q2 r0 r1 r2))
          go_roundw
          case rel => exact ⟨k + 1, _, _, by go_num, by have := HAT2.out; have := HAT.out.1; have := HPS2.out; congr 1; omega, by omega, HST.out⟩
          case measure => simp [intOf]; omega
        · obtain ⟨wa, hwa⟩ : ∃ w0, w0 = wr := ⟨_, rfl⟩
          subst hwa
          have hke : k = ks.length := by have := HHL.out; omega
          have htk : ks.take k = ks := by rw [hke]; exact List.take_length
          have HSAID := Lib.hid hdr.said
          rw [htk] at HSAID ⊢
          obtain ⟨at_, hat⟩ : ∃ at_ : Int, at_ = m0 + 16 * ptsK ks := ⟨_, rfl⟩
          rw [← hat]
          have hp0 := ptsK_nn ks
          obtain ⟨oN, hoN⟩ : ∃ oN : Nat, oN = m0 + 16 * (ptsK ks).toNat := ⟨_, rfl⟩
          obtain ⟨pN, hpN⟩ : ∃ pN : Nat, pN = p.toNat := ⟨_, rfl⟩
          obtain ⟨qN, hqN⟩ : ∃ qN : Nat, qN = q.toNat := ⟨_, rfl⟩
          have hlen3 := HLEN.out
          have HAN := Lib.hid (show at_ = (oN : Int) by omega)
          have HPN := Lib.hid (show p = (pN : Int) by omega)
          have HQN := Lib.hid (show q = (qN : Int) by omega)
          have hle1 : oN + pN * 16 ≤ n := by omega
          have hle2 : oN + qN * 24 ≤ n := by omega
          have hpb : pN ≤ 100000 := by omega
          have hqb : qN ≤ 4096 := by omega
          have hab : 0 ≤ at_ ∧ at_ ≤ n := by omega
          have HON := Lib.hid (And.intro hoN (And.intro hpN hqN))
          obtain ⟨LP, hLP⟩ : ∃ LP, listAt (ptAt bs) oN pN 16 = LP := ⟨_, rfl⟩
          obtain ⟨LQ, hLQ⟩ : ∃ LQ, listAt (ptAt bs) oN qN 24 = LQ := ⟨_, rfl⟩
          have HLPS := Lib.hid (show SsP LP by rw [← hLP]; exact ptsAt_S hU fun i hi => by rw [← HN.out]; omega)
          have HLPL := Lib.hid (show LP.length = pN by rw [← hLP]; exact listAt_len _ _ _ _)
          have HLQL := Lib.hid (show LQ.length = qN by rw [← hLQ]; exact listAt_len _ _ _ _)
          have HLP := Lib.hid hLP
          have HLQ := Lib.hid hLQ
          have hslw := HSL.out.next hbwr
          have j0 := (hdr.moved.cell (p := ⟨b5, 0, none⟩) (lt_of_cell g0) (by simp)).trans g0
          have j1 := (hdr.moved.cell (p := ⟨b5, 1, none⟩) (lt_of_cell g1) (by simp)).trans g1
          have j3 := (hdr.moved.cell (p := ⟨b5, 3, none⟩) (lt_of_cell g3) (by simp)).trans g3
          clear hke htk hat hoN hpN hqN hlen3 hLP hLQ hdr k0 k1 k2 k3 k4 k5 k6 u0 u1 u2 u3 u4 u5 u6
          go_wp2_with (fail)
          refine (ref18Counts_any op vx pts hA hn2 hc2 ks p q wa HK.out HPQ.out.1 HPQ.out.2).mono ?_
          rintro e w12 ⟨rfl, hb12⟩
          go_wp2_with (fail)
          refine (ref18Points_any A n c bs _ oN pN 16 at_ p 16 LP w12 (hslw.next hb12) HN.out hU hl HAN.out HPN.out rfl (.inl rfl) hle1 hpb HLP.out).mono ?_
          rintro e w13 ⟨v13, rfl, hown13, hb13⟩
          rw [← HLPL.out] at hown13
          have hlt13 := fun g hg => World.ownsRow.lt hown13 g hg
          obtain ⟨A4, c4, rfl, hlc4, hcm4, hr4, hnil4⟩ := own_rowR (C := ptC) ptC_len hown13
          have hb8r := HDR.out.box.lt
          have HLC4 := Lib.hid hlc4
          have hb1213 : Below wa.heap.size wa w13 := hb12.trans (hb13.mono hb12.size)
          have hbx13 := HDR.out.box.same (hb1213.block (b5 + 1) hb8r)
          obtain ⟨W14, hW14⟩ : ∃ W14, W14 = w13.setCell ⟨b5 + 1, 5, none⟩ (.slice A4 LP.length c4) := ⟨_, rfl⟩
          have hbx14 : Box7 W14 (b5 + 1) (.int .i64 op) (.int .i64 vx) (.slice hA hn2 hc2) (.int .i64 pts) V (.slice A4 LP.length c4) (.slice none 0 0) 38 := by rw [hW14]; exact hbx13.set5 _
          have hmv14 : Moved (fun g => g = b5 + 1) wa W14 := by rw [hW14]; exact (Moved.of_below hb1213).trans moved_one
          have hs14 : W14.heap.size = w13.heap.size := by rw [hW14]; simp
          have HR4 := Lib.hid (show RowR W14 (fun g => w12.heap.size ≤ g ∧ g < W14.heap.size) 2 ptC A4 LP from (hr4.keep (w' := W14) fun g hg hlt => by rw [hW14]; exact Below.heap_setCell _ _ _ _ (by show g ≠ b5 + 1; have := hlt13 g hg; have := hb12.size; omega)).imp fun g hg => by have := hlt13 g hg; omega)
          have HW14 := Lib.hid hW14
          obtain ⟨⟨k0, k1, k2, k3, k4, k5, k6⟩, u0, u1, u2, u3, u4, u5, u6⟩ := hbx13.at_
          have hsl14 : SlR W14 (fun g => T g ∧ g < w.heap.size) .u8 A bs := by
            refine (hslw.next hb1213).keep (w' := W14) fun b' o' hT hlt => ?_
            rw [hW14]
            exact World.cell?_of_block (Below.heap_setCell _ _ _ _ (by show b' ≠ b5 + 1; have := hT.2; have := h0.size; omega))
          have HS14 := Lib.hid hs14
          clear hown13 hlt13 hr4 hW14 hlc4 hcm4 hs14
          go_upto_region 16 with (fail)
          rw [← HW14.out]
          clear k0 k1 k2 k3 k4 k5 k6 u0 u1 u2 u3 u4 u5 u6 hbx13
          go_wp2_with (fail)
          refine (ref18Points_any A n c bs _ oN qN 24 at_ q 24 LQ W14 hsl14 HN.out hU hl HAN.out HQN.out rfl (.inr rfl) hle2 (by omega) HLQ.out).mono ?_
          rintro e w15 ⟨v15, rfl, hown15, hb15⟩
          rw [← HLQL.out] at hown15
          have hlt15 := fun g hg => World.ownsRow.lt hown15 g hg
          obtain ⟨A5, c5, rfl, hlc5, hcm5, hr5, hnil5⟩ := own_rowR (C := ptC) ptC_len hown15
          have hbx15 := hbx14.same (hb15.block (b5 + 1) hbx14.lt)
          have hsl15 := hsl14.next hb15
          have HR5 := Lib.hid (hr5.imp (fun g hg => hlt15 g hg))
          have hs15 : W14.heap.size ≤ w15.heap.size := hb15.size
          have hb8s : b5 + 1 < w15.heap.size := hbx15.lt
          have hb814 : b5 + 1 < W14.heap.size := hbx14.lt
          have HMV := Lib.hid (hmv14.trans (.of_below hb15))
          have hwr : w.heap.size ≤ wa.heap.size := by have := hw5.size; omega
          have hwr15 : wa.heap.size ≤ w15.heap.size := HMV.out.size
          have HM14 := Lib.hid hmv14.size
          have HB15 := Lib.hid hb15
          clear hown15 hlt15 hr5 hlc5 hcm5 hmv14
          obtain ⟨m5, hm5⟩ : ∃ m5, m5 = LQ.length := ⟨_, rfl⟩
          rw [← hm5]
          have HM5 := Lib.hid hm5
          clear hm5
          go_wp2
          go_loopw [15] (fun j wr => ∃ (k : Nat) (U : Value), j = .int .i64 k ∧ k ≤ qN ∧ QuR w15 (b5 + 1) bs op vx pts (.slice hA hn2 hc2) V (.slice A4 LP.length c4) oN k U wr) (fun j _ => qN - (intOf j).toNat)
          case atStart => exact ⟨0, _, rfl, Nat.zero_le _, hbx15, World.ownsRow_nil _ _ _ _, Moved.refl _ _⟩
          case round =>
            clear hbx15
            obtain ⟨j, U, rfl, hj, hbx, hrow, hm⟩ := hrel
            obtain ⟨⟨k0, k1, k2, k3, k4, k5, k6⟩, u0, u1, u2, u3, u4, u5, u6⟩ := hbx.at_
            have HBXL := Lib.hid hbx
            have HROW := Lib.hid hrow
            have hlow : ∀ g, U.ownBlock = some g → w15.heap.size ≤ g := fun g hg => (World.ownsRow.lt HROW.out g hg).1
            have hntb : ¬ U.ownBlock = some (b5 + 1) := fun e => by have := hlow _ e; omega
            have hbs : w15.heap.size ≤ wr.heap.size := hm.size
            clear hbx hrow
            by_cases hjq : j < qN
            · have hjqi : (j : Int) < q := by have := HQN.out; omega
              obtain ⟨pb5, po5, rfl, hT5, _, _⟩ := HR5.out.pt_ (k := j) (by rw [HLQL.out]; exact hjq)
              have hrow5 := HR5.out.keep (w' := wr) fun g hg hlt => hm.block g hlt (by have := hg.1; omega)
              obtain ⟨x0, x1⟩ := hrow5.pt2 (k := j) (by rw [HLQL.out]; exact hjq)
              obtain ⟨PQ, hPQ⟩ : ∃ PQ, PQ = Go.Proofs.YtcfdpimpleniaaaDoor.at_ LQ j := ⟨_, rfl⟩
              rw [← hPQ] at x0 x1
              obtain ⟨iv, hiv⟩ : ∃ iv, wAt bs (oN + 24 * j + 16) = iv := ⟨_, rfl⟩
              have HIV := Lib.hid hiv
              have HX := Lib.hid (show qrAt bs (oN + j * 24) = ⟨PQ, iv⟩ by
                unfold qrAt
                rw [hPQ, at_lt (by rw [HLQL.out]; exact hjq), show oN + j * 24 + 16 = oN + 24 * j + 16 by omega, hiv]
                simp only [← HLQ.out]
                unfold listAt
                rw [List.getElem_map, List.getElem_range])
              have HLS := Lib.hid (listAt_succ (qrAt bs) oN j 24)
              have HLE := Lib.hid (listAt_len (qrAt bs) oN j 24)
              have hj5 : (j : Int) < m5 := by have := HM5.out; have := HLQL.out; omega
              have q24 : IntKind.i64.wrap (24 * (j : Int)) = 24 * (j : Int) := wrap_i64' (by omega) (by omega)
              have qa : IntKind.i64.wrap (at_ + 24 * (j : Int)) = at_ + 24 * (j : Int) := by have := HAN.out; exact wrap_i64' (by omega) (by omega)
              have qb : IntKind.i64.wrap (at_ + 24 * (j : Int) + 16) = at_ + 24 * (j : Int) + 16 := by have := HAN.out; exact wrap_i64' (by omega) (by omega)
              have hnt5 : ¬ U.ownBlock = some pb5 := fun e => by have := hlow _ e; have := hT5.2; omega
              have hsl := (hsl15.keep (w' := wr) fun b' o' hT hlt => hm.cell (p := ⟨b', o', none⟩) hlt (by show ¬ b' = b5 + 1; have := hT.2; have := h0.size; omega))
              have hnS : ∀ g, T g ∧ g < w.heap.size → ¬ U.ownBlock = some g := fun g hg e => by have := hlow _ e; have := hg.2; omega
              have hrowj := HROW.out
              generalize listAt (qrAt bs) oN j 24 = LL at hrowj HLS HLE
              have HM0 := Lib.hid hm
              have hle24 : oN + 24 * j + 16 + 8 ≤ n := by omega
              clear hPQ hiv hlow hrow5
              go_wp2
              refine dirP_plain (by kernel_rfl) (fun b => U.ownBlock = some b) 15 [14] 17 [[], [(79, 0)], [], [], [(81, 2), (82, 3)], [(83, 4)], [], [], [], [(87, 8)], [(86, 7), (88, 9)], [(89, 10)], [(85, 6), (90, 11)], [(84, 5), (91, 12)], [(92, 13)], [(80, 1), (93, 14)], [], [(94, 15), (95, 16)]] [(79, 0), (80, 1), (81, 2), (82, 3), (83, 4), (84, 5), (85, 6), (86, 7), (87, 8), (88, 9), (89, 10), (90, 11), (91, 12), (92, 13), (93, 14), (94, 15), (95, 16)] [
                  (fun z_ => z_ = .pointer (some ⟨(b5 + 1), 6, none⟩)),
                  (fun z_ => z_ = U),
                  (fun z_ => z_ = .slice (some ⟨pb5, po5, none⟩) m5 c5),
                  (fun z_ => z_ = .int .i64 j),
                  (fun z_ => z_ = .pointer (some ⟨pb5, (po5 + j * 2), none⟩)),
                  (fun z_ => z_ = .agg #[.int .i64 PQ.x, .int .i64 PQ.y]),
                  (fun z_ => z_ = .slice A n c),
                  (fun z_ => z_ = .int .i64 at_),
                  (fun z_ => z_ = .int .i64 j),
                  (fun z_ => z_ = .int .i64 (24 * (j : Int))),
                  (fun z_ => z_ = .int .i64 (at_ + 24 * (j : Int))),
                  (fun z_ => z_ = .int .i64 (at_ + 24 * (j : Int) + 16)),
                  (fun z_ => z_ = .int .u64 iv),
                  (fun z_ => z_ = .agg #[.int .i64 PQ.x, .int .i64 PQ.y, .int .u64 iv]),
                  (fun _ => True),
                  (fun _ => True),
                  (fun z_ => z_ = .pointer (some ⟨(b5 + 1), 6, none⟩))
                ] [(fun _ _ => True), (fun _ _ => True), (fun _ _ => True), (fun _ _ => True), (fun _ _ => True), (fun _ _ => True), (fun _ _ => True), (fun _ _ => True), (fun _ _ => True), (fun _ _ => True), (fun _ _ => True), (fun _ _ => True), (fun _ _ => True), (fun _ _ => True), (fun z_ w_ => ∃ g, z_ = .slice (some ⟨g, 0, none⟩) 1 1 ∧ RowR w_ (fun _ => True) 3 qrC (some ⟨g, 0, none⟩) [(⟨PQ, iv⟩ : Qr)]), (fun _ _ => True), (fun _ _ => True)] (fun v' w' => GrewC 73 3 qrC wr w15.heap.size U (LL ++ [⟨PQ, iv⟩]) v' w')
                (by kernel_rfl) (by kernel_rfl) (by kernel_rfl) (by decide) ⟨fun _ _ _ h _ => h, fun _ _ _ h _ => h, fun _ _ _ h _ => h, fun _ _ _ h _ => h, fun _ _ _ h _ => h, fun _ _ _ h _ => h, fun _ _ _ h _ => h, fun _ _ _ h _ => h, fun _ _ _ h _ => h, fun _ _ _ h _ => h, fun _ _ _ h _ => h, fun _ _ _ h _ => h, fun _ _ _ h _ => h, fun _ _ _ h _ => h, fun z_ w_ w2_ h hb => let ⟨g, h1, h2⟩ := h; ⟨g, h1, h2.next hb⟩, fun _ _ _ h _ => h, fun _ _ _ h _ => h, trivial⟩ (GrewC.dst) ?steps (by decide) ?fin
              case steps =>
                refine ⟨?_, ?_, ?_, ?_, ?_, ?_, ?_, ?_, ?_, ?_, ?_, ?_, ?_, ?_, ?_, ?_, ?_, trivial⟩
                · intro vs g w2 hI hF hR K hK
                  simp only [Facts, fill, Act.put, z1, z2, z3, z4, z5, Nat.reduceAdd] at hF hR hK ⊢
                  go_simp
                  exact hK _ _ _ (hI.step (by decide) (Below.refl _ _)) ⟨rfl, fun _ => Below.refl _ _⟩ ⟨updG_same _ _, rfl, fun _ => trivial, fun e => absurd e (by decide)⟩
                · intro vs g w2 hI hF hR K hK
                  simp only [Facts, fill, Act.put, z1, z2, z3, z4, z5, Nat.reduceAdd] at hF hR hK ⊢
                  obtain ⟨q0, -⟩ := hR
                  have r0 : .pointer (some ⟨(b5 + 1), 6, none⟩) = vs 0 := Eq.symm q0.val
                  generalize vs 0 = x0 at *
                  subst r0
                  have k0 := (hI.moved.cell (lt_of_cell k6) hntb).trans k6
                  go_simp
                  exact hK _ _ _ (hI.step (by decide) (Below.refl _ _)) ⟨rfl, fun _ => Below.refl _ _⟩ ⟨updG_same _ _, rfl, fun _ => trivial, fun e => absurd e (by decide)⟩
                · intro vs g w2 hI hF hR K hK
                  simp only [Facts, fill, Act.put, z1, z2, z3, z4, z5, Nat.reduceAdd] at hF hR hK ⊢
                  go_simp
                  exact hK _ _ _ (hI.step (by decide) (Below.refl _ _)) ⟨rfl, fun _ => Below.refl _ _⟩ ⟨updG_same _ _, rfl, fun _ => trivial, fun e => absurd e (by decide)⟩
                · intro vs g w2 hI hF hR K hK
                  simp only [Facts, fill, Act.put, z1, z2, z3, z4, z5, Nat.reduceAdd] at hF hR hK ⊢
                  go_simp
                  exact hK _ _ _ (hI.step (by decide) (Below.refl _ _)) ⟨rfl, fun _ => Below.refl _ _⟩ ⟨updG_same _ _, rfl, fun _ => trivial, fun e => absurd e (by decide)⟩
                · intro vs g w2 hI hF hR K hK
                  simp only [Facts, fill, Act.put, z1, z2, z3, z4, z5, Nat.reduceAdd] at hF hR hK ⊢
                  obtain ⟨q2, q3, -⟩ := hR
                  have r2 : .slice (some ⟨pb5, po5, none⟩) m5 c5 = vs 2 := Eq.symm q2.val
                  have r3 : .int .i64 j = vs 3 := Eq.symm q3.val
                  generalize vs 2 = x2, vs 3 = x3 at *
                  subst r2 r3
                  have hb9 := hj5
                  go_simp
                  exact hK _ _ _ (hI.step (by decide) (Below.refl _ _)) ⟨rfl, fun _ => Below.refl _ _⟩ ⟨updG_same _ _, rfl, fun _ => trivial, fun e => absurd e (by decide)⟩
                · intro vs g w2 hI hF hR K hK
                  simp only [Facts, fill, Act.put, z1, z2, z3, z4, z5, Nat.reduceAdd] at hF hR hK ⊢
                  obtain ⟨q4, -⟩ := hR
                  have r4 : .pointer (some ⟨pb5, (po5 + j * 2), none⟩) = vs 4 := Eq.symm q4.val
                  generalize vs 4 = x4 at *
                  subst r4
                  have k0 := (hI.moved.cell (lt_of_cell x0) hnt5).trans x0
                  have k1 := (hI.moved.cell (lt_of_cell x1) hnt5).trans x1
                  go_simp
                  exact hK _ _ _ (hI.step (by decide) (Below.refl _ _)) ⟨rfl, fun _ => Below.refl _ _⟩ ⟨updG_same _ _, rfl, fun _ => trivial, fun e => absurd e (by decide)⟩
                · intro vs g w2 hI hF hR K hK
                  simp only [Facts, fill, Act.put, z1, z2, z3, z4, z5, Nat.reduceAdd] at hF hR hK ⊢
                  go_simp
                  exact hK _ _ _ (hI.step (by decide) (Below.refl _ _)) ⟨rfl, fun _ => Below.refl _ _⟩ ⟨updG_same _ _, rfl, fun _ => trivial, fun e => absurd e (by decide)⟩
                · intro vs g w2 hI hF hR K hK
                  simp only [Facts, fill, Act.put, z1, z2, z3, z4, z5, Nat.reduceAdd] at hF hR hK ⊢
                  go_simp
                  exact hK _ _ _ (hI.step (by decide) (Below.refl _ _)) ⟨rfl, fun _ => Below.refl _ _⟩ ⟨updG_same _ _, rfl, fun _ => trivial, fun e => absurd e (by decide)⟩
                · intro vs g w2 hI hF hR K hK
                  simp only [Facts, fill, Act.put, z1, z2, z3, z4, z5, Nat.reduceAdd] at hF hR hK ⊢
                  go_simp
                  exact hK _ _ _ (hI.step (by decide) (Below.refl _ _)) ⟨rfl, fun _ => Below.refl _ _⟩ ⟨updG_same _ _, rfl, fun _ => trivial, fun e => absurd e (by decide)⟩
                · intro vs g w2 hI hF hR K hK
                  simp only [Facts, fill, Act.put, z1, z2, z3, z4, z5, Nat.reduceAdd] at hF hR hK ⊢
                  obtain ⟨q8, -⟩ := hR
                  have r8 : .int .i64 j = vs 8 := Eq.symm q8.val
                  generalize vs 8 = x8 at *
                  subst r8
                  go_simp
                  first
                    | exact hK _ _ _ (hI.step (by decide) (Below.refl _ _)) ⟨rfl, fun _ => Below.refl _ _⟩ ⟨updG_same _ _, rfl, fun _ => trivial, fun e => absurd e (by decide)⟩
                    | (rw [q24]; exact hK _ _ _ (hI.step (by decide) (Below.refl _ _)) ⟨rfl, fun _ => Below.refl _ _⟩ ⟨updG_same _ _, rfl, fun _ => trivial, fun e => absurd e (by decide)⟩)
                · intro vs g w2 hI hF hR K hK
                  simp only [Facts, fill, Act.put, z1, z2, z3, z4, z5, Nat.reduceAdd] at hF hR hK ⊢
                  obtain ⟨q7, q9, -⟩ := hR
                  have r7 : .int .i64 at_ = vs 7 := Eq.symm q7.val
                  have r9 : .int .i64 (24 * (j : Int)) = vs 9 := Eq.symm q9.val
                  generalize vs 7 = x7, vs 9 = x9 at *
                  subst r7 r9
                  go_simp
                  first
                    | exact hK _ _ _ (hI.step (by decide) (Below.refl _ _)) ⟨rfl, fun _ => Below.refl _ _⟩ ⟨updG_same _ _, rfl, fun _ => trivial, fun e => absurd e (by decide)⟩
                    | (rw [qa]; exact hK _ _ _ (hI.step (by decide) (Below.refl _ _)) ⟨rfl, fun _ => Below.refl _ _⟩ ⟨updG_same _ _, rfl, fun _ => trivial, fun e => absurd e (by decide)⟩)
                · intro vs g w2 hI hF hR K hK
                  simp only [Facts, fill, Act.put, z1, z2, z3, z4, z5, Nat.reduceAdd] at hF hR hK ⊢
                  obtain ⟨q10, -⟩ := hR
                  have r10 : .int .i64 (at_ + 24 * (j : Int)) = vs 10 := Eq.symm q10.val
                  generalize vs 10 = x10 at *
                  subst r10
                  go_simp
                  first
                    | exact hK _ _ _ (hI.step (by decide) (Below.refl _ _)) ⟨rfl, fun _ => Below.refl _ _⟩ ⟨updG_same _ _, rfl, fun _ => trivial, fun e => absurd e (by decide)⟩
                    | (rw [qb]; exact hK _ _ _ (hI.step (by decide) (Below.refl _ _)) ⟨rfl, fun _ => Below.refl _ _⟩ ⟨updG_same _ _, rfl, fun _ => trivial, fun e => absurd e (by decide)⟩)
                · intro vs g w2 hI hF hR K hK
                  simp only [Facts, fill, Act.put, z1, z2, z3, z4, z5, Nat.reduceAdd] at hF hR hK ⊢
                  obtain ⟨q6, q11, -⟩ := hR
                  have r6 : .slice A n c = vs 6 := Eq.symm q6.val
                  have r11 : .int .i64 (at_ + 24 * (j : Int) + 16) = vs 11 := Eq.symm q11.val
                  generalize vs 6 = x6, vs 11 = x11 at *
                  subst r6 r11
                  go_simp
                  refine (wordAtB A n c bs _ (oN + 24 * j + 16) _ iv _ (hsl.keep (fun b o hS hlt => hI.moved.cell (p := ⟨b, o, none⟩) hlt (hnS b hS))) HN.out hU hl (by have := HAN.out; omega) hle24 HIV.out).mono ?_
                  rintro e w3 ⟨rfl, hb⟩
                  exact hK _ _ _ (hI.step (by decide) hb) ⟨rfl, fun _ => hb⟩ ⟨updG_same _ _, rfl, fun _ => trivial, fun e => absurd e (by decide)⟩
                · intro vs g w2 hI hF hR K hK
                  simp only [Facts, fill, Act.put, z1, z2, z3, z4, z5, Nat.reduceAdd] at hF hR hK ⊢
                  obtain ⟨q5, q12, -⟩ := hR
                  have r5 : .agg #[.int .i64 PQ.x, .int .i64 PQ.y] = vs 5 := Eq.symm q5.val
                  have r12 : .int .u64 iv = vs 12 := Eq.symm q12.val
                  generalize vs 5 = x5, vs 12 = x12 at *
                  subst r5 r12
                  go_simp
                  exact hK _ _ _ (hI.step (by decide) (Below.refl _ _)) ⟨rfl, fun _ => Below.refl _ _⟩ ⟨updG_same _ _, rfl, fun _ => trivial, fun e => absurd e (by decide)⟩
                · intro vs g w2 hI hF hR K hK
                  simp only [Facts, fill, Act.put, z1, z2, z3, z4, z5, Nat.reduceAdd] at hF hR hK ⊢
                  obtain ⟨q13, -⟩ := hR
                  have r13 : .agg #[.int .i64 PQ.x, .int .i64 PQ.y, .int .u64 iv] = vs 13 := Eq.symm q13.val
                  generalize vs 13 = x13 at *
                  subst r13
                  have hb : Below w2.heap.size w2 (w2.alloc (.cells #[.int .i64 PQ.x, .int .i64 PQ.y, .int .u64 iv] 73)) := (Below.refl _ _).alloc (Nat.le_refl _) _
                  go_simp
                  exact hK _ _ _ (hI.step (by decide) hb) ⟨rfl, fun _ => hb⟩ ⟨updG_same _ _, trivial, fun _ => ⟨_, rfl, (row_lit (C := qrC) qrC_len [(⟨PQ, iv⟩ : Qr)]).imp fun _ _ => trivial⟩, fun e => absurd e (by decide)⟩
                · intro vs g w2 hI hF hR K hK
                  simp only [Facts, fill, Act.put, z1, z2, z3, z4, z5, Nat.reduceAdd] at hF hR hK ⊢
                  obtain ⟨q1, q14, -⟩ := hR
                  have r1 : U = vs 1 := Eq.symm q1.val
                  generalize vs 1 = x1, vs 14 = x14 at *
                  subst r1
                  have hB := hI.below hF
                  obtain ⟨gl, rfl, hrl⟩ := q14.raw hF
                  rw [if_pos (by rfl)]
                  refine op_grow elemQr _ _ rfl w15.heap.size U LL rfl (row_keep hrowj fun g hg => hB.block g (World.ownsRow.lt hrowj g hg).2) ⟨gl, 0, none⟩ ⟨PQ, iv⟩ _ rfl hrl (by have := HLE.out; omega) (Nat.le_trans hbs hB.size) ?_
                  intro v' w3 hg0
                  have hg := GrewC.ahead hB hg0
                  exact hK _ _ _ (hI.end_ (fun i hi => by simp at hi; subst hi; exact q14.up) hg.moved) ⟨rfl, fun e => absurd rfl e⟩ ⟨updG_same _ _, trivial, fun e => (by rw [updG_same] at e; cases e), fun _ => hg⟩
                · intro vs g w2 hI hF hR K hK
                  simp only [Facts, fill, Act.put, z1, z2, z3, z4, z5, Nat.reduceAdd] at hF hR hK ⊢
                  go_simp
                  exact hK _ _ _ (hI.step (by decide) (Below.refl _ _)) ⟨rfl, fun _ => Below.refl _ _⟩ ⟨updG_same _ _, rfl, fun _ => trivial, fun e => absurd e (by decide)⟩
              case fin =>
                intro vs w2 hm hpo hR
                have r16 : .pointer (some ⟨(b5 + 1), 6, none⟩) = vs 16 := Eq.symm (hR 16 (by decide))
                simp only [fill, Act.put, z1, z2, z3, z4, z5] at ⊢
                clear hR
                generalize vs 16 = x16 at *
                generalize vs 15 = x15 at *
                subst r16
                have hbz := HBXL.out.same (hm.block (b5 + 1) (lt_of_cell k0) hntb)
                obtain ⟨⟨z0, z1, z2, z3, z4, z5, z6⟩, t0, t1, t2, t3, t4, t5, t6⟩ := hbz.at_
                have HBZ := Lib.hid hbz
                obtain ⟨A6, m6, c6, h6⟩ : ∃ A m c, x15 = .slice A m c := by obtain ⟨A, c, e, _⟩ := own_rowR (C := qrC) qrC_len hpo.row; exact ⟨_, _, _, e⟩
                subst h6
                refine wpOps_step rfl rfl ?_
                go_simp
                have hbx10 := HBZ.out.set6 (.slice A6 m6 c6)
                have hne : ∀ g, (Value.slice A6 m6 c6).ownBlock = some g → g ≠ b5 + 1 := fun g hg e => by rcases hpo.own g hg with h | h; exact hntb (e ▸ h); have := lt_of_cell k0; omega
                have hrow10 := row_keep (w' := w2.setCell ⟨b5 + 1, 6, none⟩ (.slice A6 m6 c6)) hpo.row fun g hg => Below.heap_setCell _ _ _ _ (hne g hg)
                have hm10 : Moved (fun g => g = b5 + 1) w15 (w2.setCell ⟨b5 + 1, 6, none⟩ (.slice A6 m6 c6)) := (moved_rows HM0.out hm (fun g hg => (World.ownsRow.lt hrowj g hg).1)).trans moved_one
                rw [← HX.out, ← HLS.out] at hrow10
                refine NoPanic.normal ?_
                go_wp2
                go_roundw
                case rel => exact ⟨j + 1, (.slice A6 m6 c6), by go_num, by omega, hbx10, hrow10, hm10⟩
                case measure => simp [intOf]; omega
            · have hjqi : ¬ ((j : Int) < q) := by have := HQN.out; omega
              have hje : j = qN := by omega
              subst hje
              have hmT := HMV.out.trans hm
              have hbfw : Below W.heap.size W wr := hmT.below hbwr (fun g hg => by omega) hbwr.size
              have hrowV := row_keep (w' := wr) HDR.out.row fun g hg => hmT.block g (World.ownsRow.lt HDR.out.row g hg).2 (by have := (World.ownsRow.lt HDR.out.row g hg).1; omega)
              obtain ⟨RA, rc, hV, hlcV, hcmV, hrV, hnilV⟩ := own_rowR (C := rgC) rgC_len hrowV
              obtain ⟨QA, qc, hUq, hlcU, hcmU, hrU, hnilU⟩ := own_rowR (C := qrC) qrC_len HROW.out
              have hVlt : ∀ g, V.ownBlock = some g → W5.heap.size ≤ g := fun g hg => (World.ownsRow.lt HDR.out.row g hg).1
              have hbz := HB0.out.same ((hmT.block b (by have := HDR.out.moved.size; omega) (by omega)).trans (HDR.out.moved.block b (by omega) (by omega)))
              have HDD := Lib.hid (show D = ⟨⟨op, vx, ks, pts⟩, regsAt bs ks m0, LP, listAt (qrAt bs) oN j 24⟩ by
                rw [← HD2.out]
                unfold decR
                rw [HP.out]
                simp only
                rw [HPQ.out.1, HPQ.out.2, ← HON.out.1, ← HON.out.2.1, ← HON.out.2.2, ← HLP.out]
                rfl)
              obtain ⟨rn, hrn⟩ : ∃ rn, rn = rows.length := ⟨_, rfl⟩
              obtain ⟨qn, hqn⟩ : ∃ qn, qn = (listAt (qrAt bs) oN j 24).length := ⟨_, rfl⟩
              rw [← hrn] at hV
              rw [← hqn] at hUq
              have HRN := Lib.hid hrn
              have HQN2 := Lib.hid hqn
              have HRV := Lib.hid (hrV.imp (T := fun g => W5.heap.size ≤ g ∧ V.ownBlock = some g) fun g hg => ⟨hVlt g hg, hg⟩)
              have HRU := Lib.hid (hrU.imp (T := fun g => w15.heap.size ≤ g) fun g hg => hlow g hg)
              have HOK := Lib.hid HDR.out.oks
              have HPROW := Lib.hid ((HR4.out.next HB15.out).keep (w' := wr) fun g hg hlt => hm.block g hlt (by have := hg.1; have := hb12.size; omega))
              have HHROW := Lib.hid (((HRW.out.keep (w' := wr) fun g hg hlt => (hmT.block g (by have := HDR.out.moved.size; omega) (by have := hg.2; omega)).trans (HDR.out.moved.block g hlt (by have := hg.2; omega)))))
              have HMT := Lib.hid hmT
              subst hV hUq
              obtain ⟨⟨y0, y1, y2, y3, y4, y5, y6⟩, f0, f1, f2, f3, f4, f5, f6⟩ := hbz.at_
              have HBZ := Lib.hid hbz
              have hwf := h0.trans (hbfw.mono h0.size)
              clear hrn hqn hrV hrU hbz hmT hrowV hlow
              go_wp2
              generalize hWf : ((((((wr.setCell ⟨b, 0, none⟩ (.int .i64 op)).setCell ⟨b, 1, none⟩ (.int .i64 vx)).setCell ⟨b, 2, none⟩ (.slice hA hn2 hc2)).setCell ⟨b, 3, none⟩ (.int .i64 pts)).setCell ⟨b, 4, none⟩ (.slice RA rn rc)).setCell ⟨b, 5, none⟩ (.slice A4 LP.length c4)).setCell ⟨b, 6, none⟩ (.slice QA qn qc) = Wf
              obtain ⟨hbf, hoth, hbq⟩ := fin7 HBZ.out hwf hbw hWf
              obtain ⟨⟨y0, y1, y2, y3, y4, y5, y6⟩, _⟩ := hbq.at_
              exact bodyPost_ret (v := .tuple #[.agg #[.int .i64 op, .int .i64 vx, .slice hA hn2 hc2, .int .i64 pts, .slice RA rn rc, .slice A4 LP.length c4, .slice QA qn qc], .int .i64 0]) (by simp [results, Tryd.results15, go_sem, y0, y1, y2, y3, y4, y5, y6]) rfl (by
                rw [HDD.out]
                refine ⟨hA, hn2, hc2, hrs, RA, rn, rc, rows, A4, LP.length, c4, QA, qn, qc, rfl, ⟨?_, HHN.out, ?_, HRN.out, ?_, ?_, rfl, HLPS.out, ?_, HQN2.out, qrsAt_ok hU (by rw [← HN.out]; exact hle2), HLC4.out⟩, HKS.out, HRP.out, HSAID.out, hbf⟩
                · exact (HHROW.out.keep fun g hg _ => hoth g (by have := hg.1; omega)).imp fun g hg => by have := hg.1; have := hw1.size; omega
                · exact (HRV.out.keep fun g hg _ => hoth g (by have := hg.1; omega)).imp fun g hg => by have := hg.1; have := hw5.size; omega
                · intro x hx
                  obtain ⟨r1, r2, r3, r4⟩ := HOK.out x hx
                  exact ⟨(r1.keep (w' := Wf) fun g hg hlt => (hoth g (by have := hg.1; omega)).trans (HMT.out.block g hlt hg.2.2.1)).imp fun g hg => by have := hg.1; have := hw5.size; omega, r2, r3, r4⟩
                · exact (HPROW.out.keep fun g hg _ => hoth g (by have := hg.1; have := hb12.size; omega)).imp fun g hg => by have := hg.1; have := hb12.size; omega
                · exact (HRU.out.keep fun g hg _ => hoth g (by omega)).imp fun g hg => by omega)
    · rw [if_neg hpe] at hcl
      exact absurd hcl hpe
  · have d1 : (er != 0) = true := by rw [bne_iff_ne]; exact hf
    have HX := Lib.hid (show D = ⟨⟨0, 0, [], 0⟩, [], [], []⟩ by rw [← HD.out, if_neg hf])
    clear hf
    go_wp2
    generalize hWf : ((((((w1.setCell ⟨b, 0, none⟩ (.int .i64 0)).setCell ⟨b, 1, none⟩ (.int .i64 0)).setCell ⟨b, 2, none⟩ (.slice none 0 0)).setCell ⟨b, 3, none⟩ (.int .i64 0)).setCell ⟨b, 4, none⟩ (.slice none 0 0)).setCell ⟨b, 5, none⟩ (.slice none 0 0)).setCell ⟨b, 6, none⟩ (.slice none 0 0) = Wf
    obtain ⟨hbf, _, hbz⟩ := fin7 HBX.out hw1 hbw hWf
    obtain ⟨⟨y0, y1, y2, y3, y4, y5, y6⟩, _⟩ := hbz.at_
    exact bodyPost_ret (v := .tuple #[.agg #[.int .i64 0, .int .i64 0, .slice none 0 0, .int .i64 0, .slice none 0 0, .slice none 0 0, .slice none 0 0], .int .i64 er]) (by simp [results, Tryd.results15, go_sem, y0, y1, y2, y3, y4, y5, y6]) rfl (by rw [HX.out]; exact ⟨none, 0, 0, [], none, 0, 0, [], none, 0, 0, none, 0, 0, rfl, ⟨RowR.nil_ _ _ _, rfl, RowR.nil_ _ _ _, rfl, (fun _ h => by cases h), RowR.nil_ _ _ _, rfl, (fun _ h => by cases h), RowR.nil_ _ _ _, rfl, (fun _ h => by cases h), Nat.le_refl _⟩, rfl, rfl, rfl, hbf⟩)
end Go.Proofs.YtcfdpimpleniaaaDoor
namespace Go.Proofs.YtcfdpimpleniaaaDoor
open Go.RowKit
set_option maxRecDepth 100000
set_option linter.unusedVariables false
set_option linter.unusedSimpArgs false

set_option maxHeartbeats 1000000 in
theorem ref18SamePts_yes (A B : Option Addr) (c d n m : Nat) (l : List Pt) (S T : Nat → Prop) (w : World) (ha : RowR w S 2 ptC A l) (hb : RowR w T 2 ptC B l) (hn : n = l.length) (hm : m = l.length) (hl : n ≤ 9223372036854775807) :
    Calls Tryd.prog 50 #[.slice A n c, .slice B m d] w fun e w' => e = .returned (.bool true) ∧ Below w.heap.size w w' := by
  subst hn hm
  go_enter Tryd.func50, Tryd.ntmps50
  go_wp2
  go_loopw [5] (fun i wr => ∃ k q : Nat, i = .int .i64 k ∧ k ≤ l.length ∧ wr = w.drewN q) (fun i _ => l.length - (intOf i).toNat)
  case atStart => exact ⟨0, 0, rfl, Nat.zero_le _, rfl⟩
  case round =>
    obtain ⟨k, q, rfl, hk, rfl⟩ := hrel
    by_cases hgo : k < l.length
    · obtain ⟨b, o, rfl, _, h1, h2⟩ := ha.p2 hgo
      obtain ⟨b', o', rfl, _, k1, k2⟩ := hb.p2 hgo
      clear ha hb
      generalize l[k]'hgo = p at h1 h2 k1 k2
      have d1 : ((p.x : Int) != (p.x : Int)) = false := by simp
      have d2 : ((p.y : Int) != (p.y : Int)) = false := by simp
      go_wp2
      go_quiet (fail)
      go_wp2
      go_roundw
      case rel => exact ⟨k + 1, q + nq, by go_num, hgo, by simp [go_sem]⟩
      case measure => simp [intOf]; omega
    · clear ha hb
      go_wp2
      go_ret
      exact ⟨rfl, below_drewN' (Below.refl _ _) q⟩
def SqRel (W : World) (n : Nat) (i : Value) (wr : World) : Prop := ∃ k : Nat, i = .int .i64 k ∧ k ≤ n ∧ Below W.heap.size W wr
set_option maxHeartbeats 8000000 in
theorem ref18Same_yes (op vx pts : Int) (hA hA' : Option Addr) (hn hc hc' : Nat) (hrs hrs' : List Rg) (RA RA' : Option Addr) (rn rc rc' : Nat) (rs rs' : List Rg) (PA PA' : Option Addr) (pn pc pc' : Nat) (ps : List Pt) (QA QA' : Option Addr) (qn qc qc' : Nat) (qs : List Qr) (T T' : Nat → Prop) (w : World)
    (h1 : ReqR w T hA hn hc hrs RA rn rc rs PA pn pc ps QA qn qc qs) (h2 : ReqR w T' hA' hn hc' hrs' RA' rn rc' rs' PA' pn pc' ps QA' qn qc' qs) (hl : hn ≤ 1000000 ∧ rn ≤ 9223372036854775807 ∧ pn ≤ 9223372036854775807 ∧ qn ≤ 9223372036854775807)
    (hpl : ∀ r ∈ rs, r.l.length ≤ 9223372036854775807)
    (hh : ∀ k (h1 : k < hrs.length) (h2 : k < hrs'.length), hrs[k].d = hrs'[k].d ∧ hrs[k].v = hrs'[k].v ∧ hrs[k].l.length = hrs'[k].l.length)
    (hr : ∀ k (h1 : k < rs.length) (h2 : k < rs'.length), rs[k].d = rs'[k].d ∧ rs[k].v = rs'[k].v ∧ rs[k].l = rs'[k].l) :
    Calls Tryd.prog 16 #[.agg #[.int .i64 op, .int .i64 vx, .slice hA hn hc, .int .i64 pts, .slice RA rn rc, .slice PA pn pc, .slice QA qn qc], .agg #[.int .i64 op, .int .i64 vx, .slice hA' hn hc', .int .i64 pts, .slice RA' rn rc', .slice PA' pn pc', .slice QA' qn qc']] w fun e w' => e = .returned (.bool true) ∧ Below w.heap.size w w' := by
  obtain ⟨W1, hW1⟩ : ∃ W, W = w.alloc (.cells #[.int .i64 op, .int .i64 vx, .slice hA hn hc, .int .i64 pts, .slice RA rn rc, .slice PA pn pc, .slice QA qn qc] 38) := ⟨_, rfl⟩
  obtain ⟨x1, hs1, a0, a1, a2, a3, a4, a5, a6⟩ := box7 hW1
  obtain ⟨W, hW⟩ : ∃ W, W = W1.alloc (.cells #[.int .i64 op, .int .i64 vx, .slice hA' hn hc', .int .i64 pts, .slice RA' rn rc', .slice PA' pn pc', .slice QA' qn qc'] 38) := ⟨_, rfl⟩
  obtain ⟨x2, hs2, b0, b1, b2, b3, b4, b5, b6⟩ := box7 hW
  have HG1 := Lib.hid ((ReqAt.mk a0 a1 a2 a3 a4 a5 a6).next x2 (by omega))
  have HG2 := Lib.hid (ReqAt.mk b0 b1 b2 b3 b4 b5 b6)
  obtain ⟨B, hB⟩ : ∃ b, b = w.heap.size := ⟨_, rfl⟩
  obtain ⟨B', hB'⟩ : ∃ b, b = w.heap.size + 1 := ⟨_, rfl⟩
  rw [← hB] at HG1
  rw [hs1, ← hB'] at HG2
  have h0 : Below w.heap.size w W := x1.trans (x2.mono x1.size)
  have HQ1 := Lib.hid (h1.next h0)
  have HQ2 := Lib.hid (h2.next h0)
  have HW1 := Lib.hid hW1
  have HW := Lib.hid hW
  have HB := Lib.hid hB
  have HB' := Lib.hid hB'
  have HH := Lib.hid hh
  have HR := Lib.hid hr
  have hBW : B < W.heap.size ∧ B' < W.heap.size := by omega
  have HL := Lib.hid hl
  have HPL := Lib.hid hpl
  clear hW1 hW hB hB' x1 x2 hs1 hs2 a0 a1 a2 a3 a4 a5 a6 b0 b1 b2 b3 b4 b5 b6 h1 h2 hh hr hl hpl
  obtain ⟨a0, a1, a2, a3, a4, a5, a6⟩ := HG1.out
  obtain ⟨b0, b1, b2, b3, b4, b5, b6⟩ := HG2.out
  go_enter Tryd.func16, Tryd.ntmps16
  go_upto_region 1 with (fail)
  rw [← HW1.out, ← HW.out, ← HB'.out, ← HB.out]
  go_wp2_with (fail)
  refine (ref17Same_yes op vx pts hA hA' hn hc hc' hrs hrs' _ _ W HQ1.out.hrow HQ2.out.hrow HQ1.out.hlen HQ2.out.hlen HL.out.1 HH.out).mono ?_
  rintro e w1 ⟨rfl, q1⟩
  clear a0 a1 a2 a3 a4 a5 a6 b0 b1 b2 b3 b4 b5 b6
  obtain ⟨a0, a1, a2, a3, a4, a5, a6⟩ := HG1.out.next q1 hBW.1
  obtain ⟨b0, b1, b2, b3, b4, b5, b6⟩ := HG2.out.next q1 hBW.2
  go_wp2_with (fail)
  refine (ref18SamePts_yes PA PA' pc pc' pn pn ps _ _ w1 (HQ1.out.prow.next q1) (HQ2.out.prow.next q1) HQ1.out.plen HQ2.out.plen HL.out.2.2.1).mono ?_
  rintro e w2 ⟨rfl, q2⟩
  have q12 := q1.trans (q2.mono q1.size)
  clear a0 a1 a2 a3 a4 a5 a6 b0 b1 b2 b3 b4 b5 b6 q1 q2
  obtain ⟨a0, a1, a2, a3, a4, a5, a6⟩ := HG1.out.next q12 hBW.1
  obtain ⟨b0, b1, b2, b3, b4, b5, b6⟩ := HG2.out.next q12 hBW.2
  go_wp2
  go_loopw [5] (fun i wr => SqRel W rn i wr) (fun i _ => rn - (intOf i).toNat)
  case atStart => exact ⟨0, rfl, Nat.zero_le _, q12⟩
  case round =>
    clear a0 a1 a2 a3 a4 a5 a6 b0 b1 b2 b3 b4 b5 b6 q12
    obtain ⟨k, rfl, hk, q⟩ := hrel
    obtain ⟨a0, a1, a2, a3, a4, a5, a6⟩ := HG1.out.next q hBW.1
    obtain ⟨b0, b1, b2, b3, b4, b5, b6⟩ := HG2.out.next q hBW.2
    by_cases hgo : k < rn
    · have hg1 : k < rs.length := by rw [← HQ1.out.rlen]; exact hgo
      have hg2 : k < rs'.length := by rw [← HQ2.out.rlen]; exact hgo
      obtain ⟨b, o, rfl, _, c0, c1, c2⟩ := (HQ1.out.rrow.next q).rg2 hg1
      obtain ⟨b', o', rfl, _, e0, e1, e2⟩ := (HQ2.out.rrow.next q).rg2 hg2
      obtain ⟨hd, hv, hll⟩ := HR.out k hg1 hg2
      have hpl2 := HPL.out _ (List.getElem_mem hg1)
      have hp1 := (HQ1.out.rok.next q _ (List.getElem_mem hg1)).row
      have hp2 := (HQ2.out.rok.next q _ (List.getElem_mem hg2)).row
      rw [← hd] at e0
      rw [← hv] at e1
      rw [← hll] at e2 hp2
      generalize (rs[k]).d = da at c0 e0
      generalize (rs[k]).v = va at c1 e1
      generalize (rs[k]).l = pl at c2 e2 hp1 hp2 hpl2
      generalize (rs[k]).A = A1 at c2 hp1
      generalize (rs[k]).c = cc1 at c2
      generalize (rs'[k]).A = A2 at e2 hp2
      generalize (rs'[k]).c = cc2 at e2
      obtain ⟨m, hm⟩ : ∃ m, pl.length = m := ⟨_, rfl⟩
      rw [hm] at c2 e2
      have HM := Lib.hid hm.symm
      have hkr : (k : Int) < rn := by omega
      have hkb : k + 1 ≤ 9223372036854775807 := by have := HL.out.2.1; omega
      have hpl : m ≤ 9223372036854775807 := by omega
      clear hd hv hll hm hpl2
      go_wp2
      refine dir_plain (by kernel_rfl) 44 [[], [(46, 0)], [], [(47, 1), (48, 2)], [(49, 3)], [(50, 4)], [], [(52, 6)], [], [(53, 7), (54, 8)], [(55, 9)], [(56, 10)], [(51, 5), (57, 11)], [(58, 12)], [(59, 13)], [(59, 13), (60, 14)], [(59, 13)], [(59, 13), (61, 15), (62, 16)], [(59, 13), (63, 17)], [(59, 13), (64, 18)], [(59, 13)], [(59, 13), (66, 20)], [(59, 13)], [(59, 13), (67, 21), (68, 22)], [(59, 13), (69, 23)], [(59, 13), (70, 24)], [(59, 13), (65, 19), (71, 25)], [(59, 13), (72, 26)], [(73, 27)], [(74, 28)], [(74, 28), (75, 29)], [(74, 28)], [(74, 28), (76, 30), (77, 31)], [(74, 28), (78, 32)], [(74, 28), (79, 33)], [(74, 28)], [(74, 28), (81, 35)], [(74, 28)], [(74, 28), (82, 36), (83, 37)], [(74, 28), (84, 38)], [(74, 28), (85, 39)], [(74, 28), (80, 34), (86, 40)], [(74, 28), (87, 41)], [(74, 28), (88, 42)]] [(46, 0), (47, 1), (48, 2), (49, 3), (50, 4), (51, 5), (52, 6), (53, 7), (54, 8), (55, 9), (56, 10), (57, 11), (58, 12), (59, 13), (60, 14), (61, 15), (62, 16), (63, 17), (64, 18), (65, 19), (66, 20), (67, 21), (68, 22), (69, 23), (70, 24), (71, 25), (72, 26), (73, 27), (74, 28), (75, 29), (76, 30), (77, 31), (78, 32), (79, 33), (80, 34), (81, 35), (82, 36), (83, 37), (84, 38), (85, 39), (86, 40), (87, 41), (88, 42), (89, 43)] [
          (fun v _ => v = .pointer (some ⟨B, 4, none⟩)),
          (fun v _ => v = .slice (some ⟨b, o, none⟩) rn rc),
          (fun v _ => v = .int .i64 k),
          (fun v _ => v = .pointer (some ⟨b, o + k * 3, none⟩)),
          (fun v _ => v = .pointer (some ⟨b, o + k * 3, none⟩)),
          (fun v _ => v = .bool da),
          (fun v _ => v = .pointer (some ⟨B', 4, none⟩)),
          (fun v _ => v = .slice (some ⟨b', o', none⟩) rn rc'),
          (fun v _ => v = .int .i64 k),
          (fun v _ => v = .pointer (some ⟨b', o' + k * 3, none⟩)),
          (fun v _ => v = .pointer (some ⟨b', o' + k * 3, none⟩)),
          (fun v _ => v = .bool da),
          (fun v _ => v = .bool false),
          (fun v _ => v = .bool false),
          (fun v _ => v = .pointer (some ⟨B, 4, none⟩)),
          (fun v _ => v = .slice (some ⟨b, o, none⟩) rn rc),
          (fun v _ => v = .int .i64 k),
          (fun v _ => v = .pointer (some ⟨b, o + k * 3, none⟩)),
          (fun v _ => v = .pointer (some ⟨b, o + k * 3 + 1, none⟩)),
          (fun v _ => v = .int .i64 va),
          (fun v _ => v = .pointer (some ⟨B', 4, none⟩)),
          (fun v _ => v = .slice (some ⟨b', o', none⟩) rn rc'),
          (fun v _ => v = .int .i64 k),
          (fun v _ => v = .pointer (some ⟨b', o' + k * 3, none⟩)),
          (fun v _ => v = .pointer (some ⟨b', o' + k * 3 + 1, none⟩)),
          (fun v _ => v = .int .i64 va),
          (fun v _ => v = .bool false),
          (fun v _ => v = .bool false),
          (fun v _ => v = .bool false),
          (fun v _ => v = .pointer (some ⟨B, 4, none⟩)),
          (fun v _ => v = .slice (some ⟨b, o, none⟩) rn rc),
          (fun v _ => v = .int .i64 k),
          (fun v _ => v = .pointer (some ⟨b, o + k * 3, none⟩)),
          (fun v _ => v = .pointer (some ⟨b, o + k * 3 + 2, none⟩)),
          (fun v _ => v = .slice A1 m cc1),
          (fun v _ => v = .pointer (some ⟨B', 4, none⟩)),
          (fun v _ => v = .slice (some ⟨b', o', none⟩) rn rc'),
          (fun v _ => v = .int .i64 k),
          (fun v _ => v = .pointer (some ⟨b', o' + k * 3, none⟩)),
          (fun v _ => v = .pointer (some ⟨b', o' + k * 3 + 2, none⟩)),
          (fun v _ => v = .slice A2 m cc2),
          (fun v _ => v = .bool true),
          (fun v _ => v = .bool false),
          (fun v _ => v = .bool false)
        ] (by kernel_rfl) (by kernel_rfl) (by kernel_rfl) (by decide) ⟨dstab_eq, dstab_eq, dstab_eq, dstab_eq, dstab_eq, dstab_eq, dstab_eq, dstab_eq, dstab_eq, dstab_eq, dstab_eq, dstab_eq, dstab_eq, dstab_eq, dstab_eq, dstab_eq, dstab_eq, dstab_eq, dstab_eq, dstab_eq, dstab_eq, dstab_eq, dstab_eq, dstab_eq, dstab_eq, dstab_eq, dstab_eq, dstab_eq, dstab_eq, dstab_eq, dstab_eq, dstab_eq, dstab_eq, dstab_eq, dstab_eq, dstab_eq, dstab_eq, dstab_eq, dstab_eq, dstab_eq, dstab_eq, dstab_eq, dstab_eq, dstab_eq, trivial⟩ ?steps ?fin
      case steps =>
        refine ⟨?_, ?_, ?_, ?_, ?_, ?_, ?_, ?_, ?_, ?_, ?_, ?_, ?_, ?_, ?_, ?_, ?_, ?_, ?_, ?_, ?_, ?_, ?_, ?_, ?_, ?_, ?_, ?_, ?_, ?_, ?_, ?_, ?_, ?_, ?_, ?_, ?_, ?_, ?_, ?_, ?_, ?_, ?_, ?_, trivial⟩
        · intro vs g w2 hI hF hR K hK
          simp only [Facts, fill, Act.put, z1, z2, z3, z4, z5, Nat.reduceAdd] at hF hR hK ⊢
          go_simp
          exact hK _ () _ hI (Below.refl _ _) rfl
        · intro vs g w2 hI hF hR K hK
          simp only [Facts, fill, Act.put, z1, z2, z3, z4, z5, Nat.reduceAdd] at hF hR hK ⊢
          obtain ⟨r0, -⟩ := hR
          generalize vs 0 = x0 at *
          subst r0
          have k0 := (hI.cell (lt_of_cell a4)).trans a4
          go_simp
          exact hK _ () _ hI (Below.refl _ _) rfl
        · intro vs g w2 hI hF hR K hK
          simp only [Facts, fill, Act.put, z1, z2, z3, z4, z5, Nat.reduceAdd] at hF hR hK ⊢
          go_simp
          exact hK _ () _ hI (Below.refl _ _) rfl
        · intro vs g w2 hI hF hR K hK
          simp only [Facts, fill, Act.put, z1, z2, z3, z4, z5, Nat.reduceAdd] at hF hR hK ⊢
          obtain ⟨r1, r2, -⟩ := hR
          generalize vs 1 = x1, vs 2 = x2 at *
          subst r1 r2
          go_simp
          exact hK _ () _ hI (Below.refl _ _) rfl
        · intro vs g w2 hI hF hR K hK
          simp only [Facts, fill, Act.put, z1, z2, z3, z4, z5, Nat.reduceAdd] at hF hR hK ⊢
          obtain ⟨r3, -⟩ := hR
          generalize vs 3 = x3 at *
          subst r3
          go_simp
          exact hK _ () _ hI (Below.refl _ _) rfl
        · intro vs g w2 hI hF hR K hK
          simp only [Facts, fill, Act.put, z1, z2, z3, z4, z5, Nat.reduceAdd] at hF hR hK ⊢
          obtain ⟨r4, -⟩ := hR
          generalize vs 4 = x4 at *
          subst r4
          have k0 := (hI.cell (lt_of_cell c0)).trans c0
          go_simp
          exact hK _ () _ hI (Below.refl _ _) rfl
        · intro vs g w2 hI hF hR K hK
          simp only [Facts, fill, Act.put, z1, z2, z3, z4, z5, Nat.reduceAdd] at hF hR hK ⊢
          go_simp
          exact hK _ () _ hI (Below.refl _ _) rfl
        · intro vs g w2 hI hF hR K hK
          simp only [Facts, fill, Act.put, z1, z2, z3, z4, z5, Nat.reduceAdd] at hF hR hK ⊢
          obtain ⟨r6, -⟩ := hR
          generalize vs 6 = x6 at *
          subst r6
          have k0 := (hI.cell (lt_of_cell b4)).trans b4
          go_simp
          exact hK _ () _ hI (Below.refl _ _) rfl
        · intro vs g w2 hI hF hR K hK
          simp only [Facts, fill, Act.put, z1, z2, z3, z4, z5, Nat.reduceAdd] at hF hR hK ⊢
          go_simp
          exact hK _ () _ hI (Below.refl _ _) rfl
        · intro vs g w2 hI hF hR K hK
          simp only [Facts, fill, Act.put, z1, z2, z3, z4, z5, Nat.reduceAdd] at hF hR hK ⊢
          obtain ⟨r7, r8, -⟩ := hR
          generalize vs 7 = x7, vs 8 = x8 at *
          subst r7 r8
          go_simp
          exact hK _ () _ hI (Below.refl _ _) rfl
        · intro vs g w2 hI hF hR K hK
          simp only [Facts, fill, Act.put, z1, z2, z3, z4, z5, Nat.reduceAdd] at hF hR hK ⊢
          obtain ⟨r9, -⟩ := hR
          generalize vs 9 = x9 at *
          subst r9
          go_simp
          exact hK _ () _ hI (Below.refl _ _) rfl
        · intro vs g w2 hI hF hR K hK
          simp only [Facts, fill, Act.put, z1, z2, z3, z4, z5, Nat.reduceAdd] at hF hR hK ⊢
          obtain ⟨r10, -⟩ := hR
          generalize vs 10 = x10 at *
          subst r10
          have k0 := (hI.cell (lt_of_cell e0)).trans e0
          go_simp
          exact hK _ () _ hI (Below.refl _ _) rfl
        · intro vs g w2 hI hF hR K hK
          simp only [Facts, fill, Act.put, z1, z2, z3, z4, z5, Nat.reduceAdd] at hF hR hK ⊢
          obtain ⟨r5, r11, -⟩ := hR
          generalize vs 5 = x5, vs 11 = x11 at *
          subst r5 r11
          go_simp
          first
            | exact hK _ () _ hI (Below.refl _ _) rfl
            | exact hK _ () _ hI (Below.refl _ _) (by simp)
        · intro vs g w2 hI hF hR K hK
          simp only [Facts, fill, Act.put, z1, z2, z3, z4, z5, Nat.reduceAdd] at hF hR hK ⊢
          obtain ⟨r12, -⟩ := hR
          generalize vs 12 = x12 at *
          subst r12
          go_simp
          exact hK _ () _ hI (Below.refl _ _) rfl
        · intro vs g w2 hI hF hR K hK
          simp only [Facts, fill, Act.put, z1, z2, z3, z4, z5, Nat.reduceAdd] at hF hR hK ⊢
          obtain ⟨r13, -⟩ := hR
          generalize vs 13 = x13 at *
          subst r13
          go_simp
          exact hK _ () _ hI (Below.refl _ _) rfl
        · intro vs g w2 hI hF hR K hK
          simp only [Facts, fill, Act.put, z1, z2, z3, z4, z5, Nat.reduceAdd] at hF hR hK ⊢
          obtain ⟨r13, r14, -⟩ := hR
          generalize vs 13 = x13, vs 14 = x14 at *
          subst r13 r14
          have k0 := (hI.cell (lt_of_cell a4)).trans a4
          go_simp
          exact hK _ () _ hI (Below.refl _ _) rfl
        · intro vs g w2 hI hF hR K hK
          simp only [Facts, fill, Act.put, z1, z2, z3, z4, z5, Nat.reduceAdd] at hF hR hK ⊢
          obtain ⟨r13, -⟩ := hR
          generalize vs 13 = x13 at *
          subst r13
          go_simp
          exact hK _ () _ hI (Below.refl _ _) rfl
        · intro vs g w2 hI hF hR K hK
          simp only [Facts, fill, Act.put, z1, z2, z3, z4, z5, Nat.reduceAdd] at hF hR hK ⊢
          obtain ⟨r13, r15, r16, -⟩ := hR
          generalize vs 13 = x13, vs 15 = x15, vs 16 = x16 at *
          subst r13 r15 r16
          go_simp
          exact hK _ () _ hI (Below.refl _ _) rfl
        · intro vs g w2 hI hF hR K hK
          simp only [Facts, fill, Act.put, z1, z2, z3, z4, z5, Nat.reduceAdd] at hF hR hK ⊢
          obtain ⟨r13, r17, -⟩ := hR
          generalize vs 13 = x13, vs 17 = x17 at *
          subst r13 r17
          go_simp
          exact hK _ () _ hI (Below.refl _ _) rfl
        · intro vs g w2 hI hF hR K hK
          simp only [Facts, fill, Act.put, z1, z2, z3, z4, z5, Nat.reduceAdd] at hF hR hK ⊢
          obtain ⟨r13, r18, -⟩ := hR
          generalize vs 13 = x13, vs 18 = x18 at *
          subst r13 r18
          have k0 := (hI.cell (lt_of_cell c1)).trans c1
          go_simp
          exact hK _ () _ hI (Below.refl _ _) rfl
        · intro vs g w2 hI hF hR K hK
          simp only [Facts, fill, Act.put, z1, z2, z3, z4, z5, Nat.reduceAdd] at hF hR hK ⊢
          obtain ⟨r13, -⟩ := hR
          generalize vs 13 = x13 at *
          subst r13
          go_simp
          exact hK _ () _ hI (Below.refl _ _) rfl
        · intro vs g w2 hI hF hR K hK
          simp only [Facts, fill, Act.put, z1, z2, z3, z4, z5, Nat.reduceAdd] at hF hR hK ⊢
          obtain ⟨r13, r20, -⟩ := hR
          generalize vs 13 = x13, vs 20 = x20 at *
          subst r13 r20
          have k0 := (hI.cell (lt_of_cell b4)).trans b4
          go_simp
          exact hK _ () _ hI (Below.refl _ _) rfl
        · intro vs g w2 hI hF hR K hK
          simp only [Facts, fill, Act.put, z1, z2, z3, z4, z5, Nat.reduceAdd] at hF hR hK ⊢
          obtain ⟨r13, -⟩ := hR
          generalize vs 13 = x13 at *
          subst r13
          go_simp
          exact hK _ () _ hI (Below.refl _ _) rfl
        · intro vs g w2 hI hF hR K hK
          simp only [Facts, fill, Act.put, z1, z2, z3, z4, z5, Nat.reduceAdd] at hF hR hK ⊢
          obtain ⟨r13, r21, r22, -⟩ := hR
          generalize vs 13 = x13, vs 21 = x21, vs 22 = x22 at *
          subst r13 r21 r22
          go_simp
          exact hK _ () _ hI (Below.refl _ _) rfl
        · intro vs g w2 hI hF hR K hK
          simp only [Facts, fill, Act.put, z1, z2, z3, z4, z5, Nat.reduceAdd] at hF hR hK ⊢
          obtain ⟨r13, r23, -⟩ := hR
          generalize vs 13 = x13, vs 23 = x23 at *
          subst r13 r23
          go_simp
          exact hK _ () _ hI (Below.refl _ _) rfl
        · intro vs g w2 hI hF hR K hK
          simp only [Facts, fill, Act.put, z1, z2, z3, z4, z5, Nat.reduceAdd] at hF hR hK ⊢
          obtain ⟨r13, r24, -⟩ := hR
          generalize vs 13 = x13, vs 24 = x24 at *
          subst r13 r24
          have k0 := (hI.cell (lt_of_cell e1)).trans e1
          go_simp
          exact hK _ () _ hI (Below.refl _ _) rfl
        · intro vs g w2 hI hF hR K hK
          simp only [Facts, fill, Act.put, z1, z2, z3, z4, z5, Nat.reduceAdd] at hF hR hK ⊢
          obtain ⟨r13, r19, r25, -⟩ := hR
          generalize vs 13 = x13, vs 19 = x19, vs 25 = x25 at *
          subst r13 r19 r25
          go_simp
          first
            | exact hK _ () _ hI (Below.refl _ _) rfl
            | exact hK _ () _ hI (Below.refl _ _) (by simp)
        · intro vs g w2 hI hF hR K hK
          simp only [Facts, fill, Act.put, z1, z2, z3, z4, z5, Nat.reduceAdd] at hF hR hK ⊢
          obtain ⟨r13, r26, -⟩ := hR
          generalize vs 13 = x13, vs 26 = x26 at *
          subst r13 r26
          go_simp
          exact hK _ () _ hI (Below.refl _ _) rfl
        · intro vs g w2 hI hF hR K hK
          simp only [Facts, fill, Act.put, z1, z2, z3, z4, z5, Nat.reduceAdd] at hF hR hK ⊢
          obtain ⟨r27, -⟩ := hR
          generalize vs 27 = x27 at *
          subst r27
          go_simp
          exact hK _ () _ hI (Below.refl _ _) rfl
        · intro vs g w2 hI hF hR K hK
          simp only [Facts, fill, Act.put, z1, z2, z3, z4, z5, Nat.reduceAdd] at hF hR hK ⊢
          obtain ⟨r28, -⟩ := hR
          generalize vs 28 = x28 at *
          subst r28
          go_simp
          exact hK _ () _ hI (Below.refl _ _) rfl
        · intro vs g w2 hI hF hR K hK
          simp only [Facts, fill, Act.put, z1, z2, z3, z4, z5, Nat.reduceAdd] at hF hR hK ⊢
          obtain ⟨r28, r29, -⟩ := hR
          generalize vs 28 = x28, vs 29 = x29 at *
          subst r28 r29
          have k0 := (hI.cell (lt_of_cell a4)).trans a4
          go_simp
          exact hK _ () _ hI (Below.refl _ _) rfl
        · intro vs g w2 hI hF hR K hK
          simp only [Facts, fill, Act.put, z1, z2, z3, z4, z5, Nat.reduceAdd] at hF hR hK ⊢
          obtain ⟨r28, -⟩ := hR
          generalize vs 28 = x28 at *
          subst r28
          go_simp
          exact hK _ () _ hI (Below.refl _ _) rfl
        · intro vs g w2 hI hF hR K hK
          simp only [Facts, fill, Act.put, z1, z2, z3, z4, z5, Nat.reduceAdd] at hF hR hK ⊢
          obtain ⟨r28, r30, r31, -⟩ := hR
          generalize vs 28 = x28, vs 30 = x30, vs 31 = x31 at *
          subst r28 r30 r31
          go_simp
          exact hK _ () _ hI (Below.refl _ _) rfl
        · intro vs g w2 hI hF hR K hK
          simp only [Facts, fill, Act.put, z1, z2, z3, z4, z5, Nat.reduceAdd] at hF hR hK ⊢
          obtain ⟨r28, r32, -⟩ := hR
          generalize vs 28 = x28, vs 32 = x32 at *
          subst r28 r32
          go_simp
          exact hK _ () _ hI (Below.refl _ _) rfl
        · intro vs g w2 hI hF hR K hK
          simp only [Facts, fill, Act.put, z1, z2, z3, z4, z5, Nat.reduceAdd] at hF hR hK ⊢
          obtain ⟨r28, r33, -⟩ := hR
          generalize vs 28 = x28, vs 33 = x33 at *
          subst r28 r33
          have k0 := (hI.cell (lt_of_cell c2)).trans c2
          go_simp
          exact hK _ () _ hI (Below.refl _ _) rfl
        · intro vs g w2 hI hF hR K hK
          simp only [Facts, fill, Act.put, z1, z2, z3, z4, z5, Nat.reduceAdd] at hF hR hK ⊢
          obtain ⟨r28, -⟩ := hR
          generalize vs 28 = x28 at *
          subst r28
          go_simp
          exact hK _ () _ hI (Below.refl _ _) rfl
        · intro vs g w2 hI hF hR K hK
          simp only [Facts, fill, Act.put, z1, z2, z3, z4, z5, Nat.reduceAdd] at hF hR hK ⊢
          obtain ⟨r28, r35, -⟩ := hR
          generalize vs 28 = x28, vs 35 = x35 at *
          subst r28 r35
          have k0 := (hI.cell (lt_of_cell b4)).trans b4
          go_simp
          exact hK _ () _ hI (Below.refl _ _) rfl
        · intro vs g w2 hI hF hR K hK
          simp only [Facts, fill, Act.put, z1, z2, z3, z4, z5, Nat.reduceAdd] at hF hR hK ⊢
          obtain ⟨r28, -⟩ := hR
          generalize vs 28 = x28 at *
          subst r28
          go_simp
          exact hK _ () _ hI (Below.refl _ _) rfl
        · intro vs g w2 hI hF hR K hK
          simp only [Facts, fill, Act.put, z1, z2, z3, z4, z5, Nat.reduceAdd] at hF hR hK ⊢
          obtain ⟨r28, r36, r37, -⟩ := hR
          generalize vs 28 = x28, vs 36 = x36, vs 37 = x37 at *
          subst r28 r36 r37
          go_simp
          exact hK _ () _ hI (Below.refl _ _) rfl
        · intro vs g w2 hI hF hR K hK
          simp only [Facts, fill, Act.put, z1, z2, z3, z4, z5, Nat.reduceAdd] at hF hR hK ⊢
          obtain ⟨r28, r38, -⟩ := hR
          generalize vs 28 = x28, vs 38 = x38 at *
          subst r28 r38
          go_simp
          exact hK _ () _ hI (Below.refl _ _) rfl
        · intro vs g w2 hI hF hR K hK
          simp only [Facts, fill, Act.put, z1, z2, z3, z4, z5, Nat.reduceAdd] at hF hR hK ⊢
          obtain ⟨r28, r39, -⟩ := hR
          generalize vs 28 = x28, vs 39 = x39 at *
          subst r28 r39
          have k0 := (hI.cell (lt_of_cell e2)).trans e2
          go_simp
          exact hK _ () _ hI (Below.refl _ _) rfl
        · intro vs g w2 hI hF hR K hK
          simp only [Facts, fill, Act.put, z1, z2, z3, z4, z5, Nat.reduceAdd] at hF hR hK ⊢
          obtain ⟨r28, r34, r40, -⟩ := hR
          generalize vs 28 = x28, vs 34 = x34, vs 40 = x40 at *
          subst r28 r34 r40
          go_simp
          refine (ref18SamePts_yes A1 A2 cc1 cc2 m m pl _ _ w2 (hp1.next hI) (hp2.next hI) HM.out HM.out hpl).mono ?_
          rintro e w3 ⟨rfl, hb⟩
          exact hK _ () _ (hI.trans (hb.mono hI.size)) hb rfl
        · intro vs g w2 hI hF hR K hK
          simp only [Facts, fill, Act.put, z1, z2, z3, z4, z5, Nat.reduceAdd] at hF hR hK ⊢
          obtain ⟨r28, r41, -⟩ := hR
          generalize vs 28 = x28, vs 41 = x41 at *
          subst r28 r41
          go_simp
          exact hK _ () _ hI (Below.refl _ _) rfl
        · intro vs g w2 hI hF hR K hK
          simp only [Facts, fill, Act.put, z1, z2, z3, z4, z5, Nat.reduceAdd] at hF hR hK ⊢
          obtain ⟨r28, r42, -⟩ := hR
          generalize vs 28 = x28, vs 42 = x42 at *
          subst r28 r42
          go_simp
          exact hK _ () _ hI (Below.refl _ _) rfl
      case fin =>
        intro vs w2 hI hR
        have r43 := hR 43 (by decide)
        simp only [fill, Act.put, z1, z2, z3, z4, z5] at r43 ⊢
        clear hR
        generalize vs 43 = x43 at *
        subst r43
        refine NoPanic.normal ?_
        have q3 := q.trans (hI.mono q.size)
        go_wp2
        go_roundw
        case rel => exact ⟨k + 1, by go_num, hgo, q3⟩
        case measure => simp [intOf]; omega
    · have hkr : ¬ ((k : Int) < rn) := by omega
      have q0 := q
      clear hgo hk
      go_wp2
      go_loopw [6] (fun i wr => SqRel W qn i wr) (fun i _ => qn - (intOf i).toNat)
      case atStart => exact ⟨0, rfl, Nat.zero_le _, q0⟩
      case round =>
        clear a0 a1 a2 a3 a4 a5 a6 b0 b1 b2 b3 b4 b5 b6 q q0 hkr
        obtain ⟨k, rfl, hk, q⟩ := hrel
        obtain ⟨a0, a1, a2, a3, a4, a5, a6⟩ := HG1.out.next q hBW.1
        obtain ⟨b0, b1, b2, b3, b4, b5, b6⟩ := HG2.out.next q hBW.2
        by_cases hgo : k < qn
        · have hg1 : k < qs.length := by rw [← HQ1.out.qlen]; exact hgo
          obtain ⟨b, o, rfl, _, c0, c1, c2⟩ := (HQ1.out.qrow.next q).q3 hg1
          obtain ⟨b', o', rfl, _, e0, e1, e2⟩ := (HQ2.out.qrow.next q).q3 hg1
          generalize qs[k] = p at c0 c1 c2 e0 e1 e2
          have d1 : ((p.p.x : Int) != (p.p.x : Int)) = false := by simp
          have d2 : ((p.p.y : Int) != (p.p.y : Int)) = false := by simp
          have d3 : ((p.id : Int) != (p.id : Int)) = false := by simp
          have hkr : (k : Int) < qn := by omega
          have hkb : k + 1 ≤ 9223372036854775807 := by have := HL.out.2.2.2; omega
          go_wp2
          go_quiet (fail)
          go_wp2
          go_roundw
          case rel => exact ⟨k + 1, by go_num, hgo, below_drewN' q _⟩
          case measure => simp [intOf]; omega
        · have hkr : ¬ ((k : Int) < qn) := by omega
          go_wp2
          go_ret
          exact ⟨rfl, h0.trans (q.mono h0.size)⟩
end Go.Proofs.YtcfdpimpleniaaaDoor
