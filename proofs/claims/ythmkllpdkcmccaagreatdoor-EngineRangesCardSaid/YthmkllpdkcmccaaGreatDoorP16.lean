/-
  Packed texts: Ref18s, Law10, Law16, Law19, Ref19b, Law14, Law19d, ShapeK, Open16, Open17, Open18.
-/
import Derived.ShapedOpen
import Derived.ChangeAgain
import Derived.Handed
import Derived.SizedLaws
import Derived.Test.YthmkllpdkcmccaaGreatDoorP15
namespace Go.Proofs.YthmkllpdkcmccaaGreatDoor
open Go.RowKit
set_option maxRecDepth 100000
set_option linter.unusedVariables false
set_option linter.unusedSimpArgs false

def RspRel (W : World) (fs : List Int) (l : List Rc) (b j : Value) (wr : World) : Prop := ∃ k : Nat, j = .int .i64 k ∧ k ≤ l.length ∧ EncI W b (fs ++ (l.take k).flatMap rcB) wr
theorem keepW {W w' : World} (hb : Below W.heap.size W w') {a o : Nat} {x : Value} (h : W.cell? ⟨a, o, none⟩ = some x) : w'.cell? ⟨a, o, none⟩ = some x := (hb.cell (p := ⟨a, o, none⟩) (lt_of_cell h)).trans h
theorem isA_parts {h : Hq} {a : An} (e : isA h a = true) : (0 ≤ a.v ∧ a.v ≤ mostA h.op ∧ (a.l.length : Int) = h.pts ∧ 0 ≤ a.n ∧ a.n ≤ h.pts ∧ (a.v = 0 → a.n ≤ 0)) ∧ ∀ x ∈ a.l, x.live = 0 ∨ x.live = 1 := by
  unfold isA at e
  rw [Bool.and_eq_true] at e
  exact ⟨headA_iff.1 e.1, recsA_live e.2⟩
set_option maxHeartbeats 4000000 in
theorem ref18Respond_any (op vx pts : Int) (hA : Option Addr) (hn hc : Nat) (hrs : List Rg) (v k : Int) (B : Option Addr) (m d : Nat) (l : List Rc) (er : Int) (bs : List Int) (w : World)
    (hh : RowR w (fun g => g < w.heap.size) 3 rgC hA hrs) (hhn : hn = hrs.length) (hhl : hn ≤ 9223372036854775807)
    (hl : RowR w (fun g => g < w.heap.size) 2 rcC B l) (hm : m = l.length) (hml : m ≤ 9223372036854775807) (hU : UsR l)
    (he : rspE ⟨op, vx, hrs.map rgK, pts⟩ (rgP hrs) ⟨v, k, l⟩ = er) (hb : (if er = 0 then rspB ⟨op, vx, hrs.map rgK, pts⟩ ⟨v, k, l⟩ else []) = bs) :
    Calls Tryz.prog 20 #[.agg #[.int .i64 op, .int .i64 vx, .slice hA hn hc, .int .i64 pts], .agg #[.int .i64 v, .int .i64 k, .slice B m d]] w (GivesB w er bs) := by
  obtain ⟨W, hW⟩ : ∃ W, W = (w.alloc (.cells #[.int .i64 op, .int .i64 vx, .slice hA hn hc, .int .i64 pts] 37)).alloc (.cells #[.int .i64 v, .int .i64 k, .slice B m d] 59) := ⟨_, rfl⟩
  obtain ⟨b, hb0⟩ : ∃ b, b = w.heap.size := ⟨_, rfl⟩
  have h0 : Below w.heap.size w W := by rw [hW]; exact ((Below.refl _ _).alloc (Nat.le_refl _) _).alloc (by simp) _
  have hWs : W.heap.size = w.heap.size + 2 := by rw [hW]; simp
  have g0 : W.cell? ⟨b, 0, none⟩ = some (.int .i64 op) := by rw [hW, hb0]; simp [go_sem]
  have g1 : W.cell? ⟨b, 1, none⟩ = some (.int .i64 vx) := by rw [hW, hb0]; simp [go_sem]
  have g2 : W.cell? ⟨b, 2, none⟩ = some (.slice hA hn hc) := by rw [hW, hb0]; simp [go_sem]
  have g3 : W.cell? ⟨b, 3, none⟩ = some (.int .i64 pts) := by rw [hW, hb0]; simp [go_sem]
  have a0 : W.cell? ⟨b + 1, 0, none⟩ = some (.int .i64 v) := by rw [hW, hb0]; simp [go_sem]
  have a1 : W.cell? ⟨b + 1, 1, none⟩ = some (.int .i64 k) := by rw [hW, hb0]; simp [go_sem]
  have a2 : W.cell? ⟨b + 1, 2, none⟩ = some (.slice B m d) := by rw [hW, hb0]; simp [go_sem]
  have hbW : b + 1 < W.heap.size := by omega
  obtain ⟨fe, hfe⟩ : ∃ fe, formErr ⟨op, vx, hrs.map rgK, pts⟩ (rgP hrs) = fe := ⟨_, rfl⟩
  have HFE := Lib.hid hfe
  have HHN := Lib.hid hhn
  have HM := Lib.hid hm
  have HE := Lib.hid he
  have HBB := Lib.hid hb
  have HHW := Lib.hid (hh.next h0)
  have HRow := Lib.hid (hl.next h0)
  have HW := Lib.hid hW
  have HB := Lib.hid hb0
  clear hW hb0 hh hl hfe he hb hhn hm
  go_enter Tryz.func20, Tryz.ntmps20
  go_upto_region 1 with (fail)
  rw [← HW.out, ← HB.out]
  go_wp2_with (fail)
  refine (ref17Format_any op vx pts hA hn hc hrs fe _ W (HHW.out.imp fun g hg => by omega) HHN.out hhl HFE.out rfl).mono ?_
  rintro e w1 ⟨v1, rfl, hown1, hb1⟩
  by_cases hf : fe = 0
  · subst hf
    obtain ⟨hk, hpf⟩ := formErr_ok.1 HFE.out
    have HOP := Lib.hid hk.op
    have hop := HOP.out
    simp only at hop
    obtain ⟨q, hq⟩ : ∃ q, isA ⟨op, vx, hrs.map rgK, pts⟩ ⟨v, k, l⟩ = q := ⟨_, rfl⟩
    have HQ := Lib.hid hq
    have HK := Lib.hid hk
    have j0 := keepW hb1 g0
    have j1 := keepW hb1 g1
    have j2 := keepW hb1 g2
    have j3 := keepW hb1 g3
    have j4 := keepW hb1 a0
    have j5 := keepW hb1 a1
    have j6 := keepW hb1 a2
    clear hq hk hpf hown1
    go_wp2_with (fail)
    refine (ref18Is_any op vx pts hA hn hc (hrs.map rgK) v k B m d l q _ w1 hop (HRow.out.next hb1) HM.out hml HQ.out).mono ?_
    rintro e w2 ⟨rfl, hb2⟩
    have hbw2 := hb1.trans (hb2.mono hb1.size)
    clear j0 j1 j2 j3 j4 j5 j6 hb2 hb1
    have HEV := Lib.hid (show rspE ⟨op, vx, hrs.map rgK, pts⟩ (rgP hrs) ⟨v, k, l⟩ = if q then 0 else 10 by unfold rspE; rw [HFE.out, if_neg (by simp), HQ.out])
    cases q with
    | false =>
      have HX := Lib.hid (show er = 10 ∧ bs = [] by
        have h1 : er = 10 := by rw [← HE.out, HEV.out]; rfl
        exact ⟨h1, by rw [← HBB.out, if_neg (by omega)]⟩)
      go_wp2
      exact bodyPost_ret (v := .tuple #[.slice none 0 0, .int .i64 10]) (by simp [results, Tryz.results20, go_sem]) rfl (by rw [HX.out.1]; exact givesB_bad (by decide) HX.out.2 (h0.trans (hbw2.mono h0.size)))
    | true =>
      have HXE := Lib.hid (show er = 0 by rw [← HE.out, HEV.out]; rfl)
      obtain ⟨⟨p1, p2, p3, p4, p5, p6⟩, plive⟩ := isA_parts HQ.out
      simp only at p1 p2 p3 p4 p5 p6 plive
      have hmo : mostA op ≤ 3 := by unfold mostA; split <;> (try split) <;> omega
      have hv3 : 0 ≤ v ∧ v ≤ 3 := by omega
      have hp4096 : pts ≤ 4096 := by
        by_cases e5 : op = 5
        · exact (HK.out.pts5 e5).2
        · have := HK.out.pts0 e5; simp only at this; omega
      have hl4096 : l.length ≤ 4096 := by omega
      have hkb : 0 ≤ k ∧ k ≤ 4096 := by omega
      have HLV := Lib.hid plive
      have e1 : IntKind.u8.wrap v = v := wrap_u8' (by omega) (by omega)
      have j0 := keepW hbw2 g0
      have j4 := keepW hbw2 a0
      have j5 := keepW hbw2 a1
      have j6 := keepW hbw2 a2
      obtain ⟨w3, hw3⟩ : ∃ w3, w3 = w2.alloc (.cells #[.int .u8 0, .int .u8 v] 5) := ⟨_, rfl⟩
      obtain ⟨bl, hbl⟩ : ∃ bl, bl = w2.heap.size := ⟨_, rfl⟩
      have hb3 : Below w2.heap.size w2 w3 := by rw [hw3]; exact (Below.refl _ _).alloc (Nat.le_refl _) _
      have hi3 : EncI W (.slice (some ⟨bl, 0, none⟩) 2 2) [0, v] w3 := by
        refine ⟨?_, hbw2.trans (hb3.mono hbw2.size)⟩
        rw [hw3, hbl]
        exact own_lit [0, v] (by simp) W.heap.size hbw2.size
      have HW3 := Lib.hid hw3
      have HBL := Lib.hid hbl
      clear p1 p2 p3 p4 p5 p6 plive hmo hw3 hbl
      by_cases h5 : op = 5
      · subst h5
        have HFS := Lib.hid (show rspB ⟨5, vx, hrs.map rgK, pts⟩ ⟨v, k, l⟩ = [0, v] ++ [k % 256, k / 256] ++ l.flatMap rcB by unfold rspB; rw [if_pos rfl]; simp)
        have e2 : IntKind.i64.wrap (k.tmod 256) = k % 256 := by rw [Int.tmod_eq_emod_of_nonneg hkb.1]; exact wrap_i64' (by omega) (by omega)
        have e3 : IntKind.i64.wrap (k.tdiv 256) = k / 256 := by rw [Int.tdiv_eq_ediv_of_nonneg hkb.1]; exact wrap_i64' (by omega) (by omega)
        have e2' : k.tmod 256 = k % 256 := Int.tmod_eq_emod_of_nonneg hkb.1
        have e3' : k.tdiv 256 = k / 256 := Int.tdiv_eq_ediv_of_nonneg hkb.1
        have e4 : IntKind.u8.wrap (k % 256) = k % 256 := wrap_u8' (by omega) (by omega)
        have e5 : IntKind.u8.wrap (k / 256) = k / 256 := wrap_u8' (by omega) (by omega)
        go_upto_region 7 with (fail)
        rw [← HW3.out, ← HBL.out]
        have j0 := (hb3.cell (lt_of_cell j0)).trans j0
        have j5 := (hb3.cell (lt_of_cell j5)).trans j5
        have hrow3 := hi3.row
        have hbs3 := hi3.below.size
        clear j4 j6 hb3
        go_wp2_with (first
          | (at_builtin; refine wp_grow_lit rfl _ _ rfl W.heap.size _ [0, v] rfl hrow3 [k % 256, k / 256] 2 2 rfl rfl (by simp) hbs3 ?_
             intro v4 w4 hg4
             have hi4 := hi3.grow hg4))
        clear hrow3 hg4 hi3 hbs3 j0 j5
        generalize v4 = bb at *
        obtain ⟨fs, hfs⟩ : ∃ fs : List Int, fs = [0, v] ++ [k % 256, k / 256] := ⟨_, rfl⟩
        rw [← hfs] at hi4
        have hfl : fs.length ≤ 4 := by rw [hfs]; simp
        have HF2 := Lib.hid hfs
        clear hfs
        go_loopw [8, 9] (fun b j wr => RspRel W fs l b j wr) (fun _ j _ => m - (intOf j).toNat)
        case atStart => exact ⟨0, rfl, Nat.zero_le _, by rw [List.take_zero, List.flatMap_nil, List.append_nil]; exact hi4⟩
        case round =>
          clear hi4
          obtain ⟨j, rfl, hj, hij⟩ := hrel
          have k2 := keepW hij.below a2
          by_cases hjm : j < l.length
          · obtain ⟨pb, po, rfl, hTq, hcq⟩ := HRow.out.at_ hjm
            have p0 : W.cell? ⟨pb, po + j * 2, none⟩ = some (.int .u64 (l[j]).live) := hcq 0 _ rfl
            have p1 : W.cell? ⟨pb, po + j * 2 + 1, none⟩ = some (.int .u64 (l[j]).id) := hcq 1 _ rfl
            have HFL := Lib.hid (flat_snoc rcB hjm)
            have HPS := Lib.hid (hU _ (List.getElem_mem hjm))
            have HL1 := Lib.hid (HLV.out _ (List.getElem_mem hjm))
            have hfl2 := flat_take_le rcB_len l j
            have q0 := keepW hij.below p0
            have q1 := keepW hij.below p1
            clear hcq p0 p1
            generalize l[j] = P at q0 q1 HFL HPS HL1
            have hx1 : 0 ≤ P.live ∧ P.live ≤ 1 := by have := HL1.out; omega
            have e6 : IntKind.u8.wrap P.live = P.live := wrap_u8' (by omega) (by omega)
            have hjr : (j : Int) < m := by have := HM.out; omega
            have hlen : (fs ++ (l.take j).flatMap rcB).length ≤ 100000 := by rw [List.length_append]; omega
            obtain ⟨Y, hY⟩ : ∃ Y, Y = fs ++ (l.take j).flatMap rcB := ⟨_, rfl⟩
            rw [← hY] at hij hlen
            have HY := Lib.hid hY
            have hlow : ∀ g, u8.ownBlock = some g → W.heap.size ≤ g := fun g hg => (World.ownsRow.lt hij.row g hg).1
            have hntB : ¬ u8.ownBlock = some (b + 1) := fun e => by have := hlow _ e; omega
            have hntq : ¬ u8.ownBlock = some pb := fun e => by have := hlow pb e; omega
            have hbs := hij.below.size
            clear hfl2 hY hlow
            go_wp2
            refine dirP_plain (by kernel_rfl) (fun b => u8.ownBlock = some b) 9 [8] 16 [[], [], [(48, 1)], [], [(49, 2), (50, 3)], [(51, 4)], [(52, 5)], [(53, 6)], [(54, 7)], [(47, 0), (55, 8)], [], [(57, 10)], [], [(58, 11), (59, 12)], [(60, 13)], [(61, 14)], [(56, 9), (62, 15)], [(63, 16)]] [(47, 0), (48, 1), (49, 2), (50, 3), (51, 4), (52, 5), (53, 6), (54, 7), (55, 8), (56, 9), (57, 10), (58, 11), (59, 12), (60, 13), (61, 14), (62, 15)] [
                (fun z_ => z_ = u8),
                (fun z_ => z_ = .pointer (some ⟨(b + 1), 2, none⟩)),
                (fun z_ => z_ = .slice (some ⟨pb, po, none⟩) m d),
                (fun z_ => z_ = .int .i64 j),
                (fun z_ => z_ = .pointer (some ⟨pb, po + j * 2, none⟩)),
                (fun z_ => z_ = .pointer (some ⟨pb, po + j * 2, none⟩)),
                (fun z_ => z_ = .int .u64 P.live),
                (fun z_ => z_ = .int .u8 P.live),
                (fun _ => True),
                (fun _ => True),
                (fun z_ => z_ = .pointer (some ⟨(b + 1), 2, none⟩)),
                (fun z_ => z_ = .slice (some ⟨pb, po, none⟩) m d),
                (fun z_ => z_ = .int .i64 j),
                (fun z_ => z_ = .pointer (some ⟨pb, po + j * 2, none⟩)),
                (fun z_ => z_ = .pointer (some ⟨pb, po + j * 2 + 1, none⟩)),
                (fun z_ => z_ = .int .u64 P.id)
              ] [(fun _ _ => True), (fun _ _ => True), (fun _ _ => True), (fun _ _ => True), (fun _ _ => True), (fun _ _ => True), (fun _ _ => True), (fun _ _ => True), (fun z_ w_ => ∃ g, z_ = .slice (some ⟨g, 0, none⟩) 1 1 ∧ RowR w_ (fun _ => True) 1 byC (some ⟨g, 0, none⟩) [P.live]), (fun _ _ => True), (fun _ _ => True), (fun _ _ => True), (fun _ _ => True), (fun _ _ => True), (fun _ _ => True), (fun _ _ => True)] (fun v' w' => Grew wr W.heap.size u8 (Y ++ [P.live]) v' w')
              (by kernel_rfl) (by kernel_rfl) (by kernel_rfl) (by decide) ⟨fun _ _ _ h _ => h, fun _ _ _ h _ => h, fun _ _ _ h _ => h, fun _ _ _ h _ => h, fun _ _ _ h _ => h, fun _ _ _ h _ => h, fun _ _ _ h _ => h, fun _ _ _ h _ => h, fun z_ w_ w2_ h hb => let ⟨g, h1, h2⟩ := h; ⟨g, h1, h2.next hb⟩, fun _ _ _ h _ => h, fun _ _ _ h _ => h, fun _ _ _ h _ => h, fun _ _ _ h _ => h, fun _ _ _ h _ => h, fun _ _ _ h _ => h, fun _ _ _ h _ => h, trivial⟩ (Grew.dst) ?steps (by decide) ?fin
            case steps =>
              refine ⟨?_, ?_, ?_, ?_, ?_, ?_, ?_, ?_, ?_, ?_, ?_, ?_, ?_, ?_, ?_, ?_, trivial⟩
              · intro vs g w2 hI hF hR K hK
                simp only [Facts, fill, Act.put, z1, z2, z3, z4, z5, Nat.reduceAdd] at hF hR hK ⊢
                go_simp
                exact hK _ _ _ (hI.step (by decide) (Below.refl _ _)) ⟨rfl, fun _ => Below.refl _ _⟩ ⟨updG_same _ _, rfl, fun _ => trivial, fun e => absurd e (by decide)⟩
              · intro vs g w2 hI hF hR K hK
                simp only [Facts, fill, Act.put, z1, z2, z3, z4, z5, Nat.reduceAdd] at hF hR hK ⊢
                go_simp
                exact hK _ _ _ (hI.step (by decide) (Below.refl _ _)) ⟨rfl, fun _ => Below.refl _ _⟩ ⟨updG_same _ _, rfl, fun _ => trivial, fun e => absurd e (by decide)⟩
              · intro vs g w2 hI hF hR K hK
                simp only [Facts, fill, Act.put, z1, z2, z3, z4, z5, Nat.reduceAdd] at hF hR hK ⊢
                obtain ⟨q1, -⟩ := hR
                have r1 : .pointer (some ⟨(b + 1), 2, none⟩) = vs 1 := Eq.symm q1.val
                generalize vs 1 = x1 at *
                subst r1
                have k0 := (hI.moved.cell (lt_of_cell k2) hntB).trans k2
                go_simp
                exact hK _ _ _ (hI.step (by decide) (Below.refl _ _)) ⟨rfl, fun _ => Below.refl _ _⟩ ⟨updG_same _ _, rfl, fun _ => trivial, fun e => absurd e (by decide)⟩
              · intro vs g w2 hI hF hR K hK
                simp only [Facts, fill, Act.put, z1, z2, z3, z4, z5, Nat.reduceAdd] at hF hR hK ⊢
                go_simp
                exact hK _ _ _ (hI.step (by decide) (Below.refl _ _)) ⟨rfl, fun _ => Below.refl _ _⟩ ⟨updG_same _ _, rfl, fun _ => trivial, fun e => absurd e (by decide)⟩
              · intro vs g w2 hI hF hR K hK
                simp only [Facts, fill, Act.put, z1, z2, z3, z4, z5, Nat.reduceAdd] at hF hR hK ⊢
                obtain ⟨q2, q3, -⟩ := hR
                have r2 : .slice (some ⟨pb, po, none⟩) m d = vs 2 := Eq.symm q2.val
                have r3 : .int .i64 j = vs 3 := Eq.symm q3.val
                generalize vs 2 = x2, vs 3 = x3 at *
                subst r2 r3
                go_simp
                exact hK _ _ _ (hI.step (by decide) (Below.refl _ _)) ⟨rfl, fun _ => Below.refl _ _⟩ ⟨updG_same _ _, rfl, fun _ => trivial, fun e => absurd e (by decide)⟩
              · intro vs g w2 hI hF hR K hK
                simp only [Facts, fill, Act.put, z1, z2, z3, z4, z5, Nat.reduceAdd] at hF hR hK ⊢
                obtain ⟨q4, -⟩ := hR
                have r4 : .pointer (some ⟨pb, po + j * 2, none⟩) = vs 4 := Eq.symm q4.val
                generalize vs 4 = x4 at *
                subst r4
                go_simp
                exact hK _ _ _ (hI.step (by decide) (Below.refl _ _)) ⟨rfl, fun _ => Below.refl _ _⟩ ⟨updG_same _ _, rfl, fun _ => trivial, fun e => absurd e (by decide)⟩
              · intro vs g w2 hI hF hR K hK
                simp only [Facts, fill, Act.put, z1, z2, z3, z4, z5, Nat.reduceAdd] at hF hR hK ⊢
                obtain ⟨q5, -⟩ := hR
                have r5 : .pointer (some ⟨pb, po + j * 2, none⟩) = vs 5 := Eq.symm q5.val
                generalize vs 5 = x5 at *
                subst r5
                have k0 := (hI.moved.cell (lt_of_cell q0) hntq).trans q0
                go_simp
                exact hK _ _ _ (hI.step (by decide) (Below.refl _ _)) ⟨rfl, fun _ => Below.refl _ _⟩ ⟨updG_same _ _, rfl, fun _ => trivial, fun e => absurd e (by decide)⟩
              · intro vs g w2 hI hF hR K hK
                simp only [Facts, fill, Act.put, z1, z2, z3, z4, z5, Nat.reduceAdd] at hF hR hK ⊢
                obtain ⟨q6, -⟩ := hR
                have r6 : .int .u64 P.live = vs 6 := Eq.symm q6.val
                generalize vs 6 = x6 at *
                subst r6
                go_simp
                exact hK _ _ _ (hI.step (by decide) (Below.refl _ _)) ⟨rfl, fun _ => Below.refl _ _⟩ ⟨updG_same _ _, rfl, fun _ => trivial, fun e => absurd e (by decide)⟩
              · intro vs g w2 hI hF hR K hK
                simp only [Facts, fill, Act.put, z1, z2, z3, z4, z5, Nat.reduceAdd] at hF hR hK ⊢
                obtain ⟨q7, -⟩ := hR
                have r7 : .int .u8 P.live = vs 7 := Eq.symm q7.val
                generalize vs 7 = x7 at *
                subst r7
                have hb : Below w2.heap.size w2 (w2.alloc (.cells #[.int .u8 P.live] 5)) := (Below.refl _ _).alloc (Nat.le_refl _) _
                go_simp
                exact hK _ _ _ (hI.step (by decide) hb) ⟨rfl, fun _ => hb⟩ ⟨updG_same _ _, trivial, fun _ => ⟨_, rfl, (row_lit (C := byC) byC_len [P.live]).imp fun _ _ => trivial⟩, fun e => absurd e (by decide)⟩
              · intro vs g w2 hI hF hR K hK
                simp only [Facts, fill, Act.put, z1, z2, z3, z4, z5, Nat.reduceAdd] at hF hR hK ⊢
                obtain ⟨q0, q8, -⟩ := hR
                have r0 : u8 = vs 0 := Eq.symm q0.val
                generalize vs 0 = x0, vs 8 = x8 at *
                subst r0
                have hB := hI.below hF
                obtain ⟨gl, rfl, hrl⟩ := q8.raw hF
                rw [if_pos (by rfl)]
                refine op_app_row elemB _ _ rfl W.heap.size u8 Y.length (Y.map (Value.int .u8)) rfl (hij.row.nextB hB) (some ⟨gl, 0, none⟩) 1 1 [P.live] _ rfl rfl hrl (fun h => by cases h) (by omega) (Nat.le_trans hbs hB.size) ?_
                intro v' w3 hrow hgrow hloc
                have hg : Grew wr W.heap.size u8 (Y ++ [P.live]) v' w3 := Grew.ahead hB ⟨by unfold OwnK; rw [List.length_append, List.map_append]; exact hrow, grown_moved hgrow, fun b hb => by rcases hloc with h | h; exact .inl (h ▸ hb); rw [h] at hb; injection hb with hb; exact .inr (by omega)⟩
                exact hK _ _ _ (hI.end_ (fun i hi => by simp at hi; subst hi; exact q8.up) hg.moved) ⟨rfl, fun e => absurd rfl e⟩ ⟨updG_same _ _, trivial, fun e => (by rw [updG_same] at e; cases e), fun _ => hg⟩
              · intro vs g w2 hI hF hR K hK
                simp only [Facts, fill, Act.put, z1, z2, z3, z4, z5, Nat.reduceAdd] at hF hR hK ⊢
                go_simp
                exact hK _ _ _ (hI.step (by decide) (Below.refl _ _)) ⟨rfl, fun _ => Below.refl _ _⟩ ⟨updG_same _ _, rfl, fun _ => trivial, fun e => absurd e (by decide)⟩
              · intro vs g w2 hI hF hR K hK
                simp only [Facts, fill, Act.put, z1, z2, z3, z4, z5, Nat.reduceAdd] at hF hR hK ⊢
                obtain ⟨q10, -⟩ := hR
                have r10 : .pointer (some ⟨(b + 1), 2, none⟩) = vs 10 := Eq.symm q10.val
                generalize vs 10 = x10 at *
                subst r10
                have k0 := (hI.moved.cell (lt_of_cell k2) hntB).trans k2
                go_simp
                exact hK _ _ _ (hI.step (by decide) (Below.refl _ _)) ⟨rfl, fun _ => Below.refl _ _⟩ ⟨updG_same _ _, rfl, fun _ => trivial, fun e => absurd e (by decide)⟩
              · intro vs g w2 hI hF hR K hK
                simp only [Facts, fill, Act.put, z1, z2, z3, z4, z5, Nat.reduceAdd] at hF hR hK ⊢
                go_simp
                exact hK _ _ _ (hI.step (by decide) (Below.refl _ _)) ⟨rfl, fun _ => Below.refl _ _⟩ ⟨updG_same _ _, rfl, fun _ => trivial, fun e => absurd e (by decide)⟩
              · intro vs g w2 hI hF hR K hK
                simp only [Facts, fill, Act.put, z1, z2, z3, z4, z5, Nat.reduceAdd] at hF hR hK ⊢
                obtain ⟨q11, q12, -⟩ := hR
                have r11 : .slice (some ⟨pb, po, none⟩) m d = vs 11 := Eq.symm q11.val
                have r12 : .int .i64 j = vs 12 := Eq.symm q12.val
                generalize vs 11 = x11, vs 12 = x12 at *
                subst r11 r12
                go_simp
                exact hK _ _ _ (hI.step (by decide) (Below.refl _ _)) ⟨rfl, fun _ => Below.refl _ _⟩ ⟨updG_same _ _, rfl, fun _ => trivial, fun e => absurd e (by decide)⟩
              · intro vs g w2 hI hF hR K hK
                simp only [Facts, fill, Act.put, z1, z2, z3, z4, z5, Nat.reduceAdd] at hF hR hK ⊢
                obtain ⟨q13, -⟩ := hR
                have r13 : .pointer (some ⟨pb, po + j * 2, none⟩) = vs 13 := Eq.symm q13.val
                generalize vs 13 = x13 at *
                subst r13
                go_simp
                exact hK _ _ _ (hI.step (by decide) (Below.refl _ _)) ⟨rfl, fun _ => Below.refl _ _⟩ ⟨updG_same _ _, rfl, fun _ => trivial, fun e => absurd e (by decide)⟩
              · intro vs g w2 hI hF hR K hK
                simp only [Facts, fill, Act.put, z1, z2, z3, z4, z5, Nat.reduceAdd] at hF hR hK ⊢
                obtain ⟨q14, -⟩ := hR
                have r14 : .pointer (some ⟨pb, po + j * 2 + 1, none⟩) = vs 14 := Eq.symm q14.val
                generalize vs 14 = x14 at *
                subst r14
                have k0 := (hI.moved.cell (lt_of_cell q1) hntq).trans q1
                go_simp
                exact hK _ _ _ (hI.step (by decide) (Below.refl _ _)) ⟨rfl, fun _ => Below.refl _ _⟩ ⟨updG_same _ _, rfl, fun _ => trivial, fun e => absurd e (by decide)⟩
            case fin =>
              intro vs w2 hm hpo hR
              have r15 : .int .u64 P.id = vs 15 := Eq.symm (hR 15 (by decide))
              simp only [fill, Act.put, z1, z2, z3, z4, z5] at ⊢
              clear hR
              generalize vs 15 = x15 at *
              generalize vs 9 = x9 at *
              subst r15
              have hlen2 : (Y ++ [P.live]).length ≤ 900000 := by rw [List.length_append]; simp; omega
              refine wpOps_step rfl rfl ?_
              go_simp
              refine (ref18Word_any W.heap.size _ (Y ++ [P.live]) P.id w2 hpo.row hlen2 (Nat.le_trans hbs hpo.moved.size) HPS.out.2).mono ?_
              rintro e w3 ⟨v3, rfl, hg3⟩
              refine wpOps_step rfl rfl ?_
              go_simp
              refine NoPanic.normal ?_
              have hi6 := hij.grow (hpo.trans hg3)
              go_wp2
              go_roundw
              case rel => exact ⟨j + 1, by go_num, hjm, by rw [HFL.out, ← List.append_assoc, ← HY.out, show rcB P = [P.live] ++ digs 8 P.id from rfl, ← List.append_assoc]; exact hi6⟩
              case measure => have := HM.out; simp [intOf]; omega
          · have hjr : ¬ ((j : Int) < m) := by have := HM.out; omega
            have HFA := Lib.hid (show l.take j = l from List.take_of_length_le (by omega))
            rw [HFA.out] at hij
            have HXB := Lib.hid (show bs = fs ++ l.flatMap rcB by rw [← HBB.out, if_pos HXE.out, HFS.out, HF2.out])
            rw [← HXB.out] at hij
            go_wp2
            exact bodyPost_ret (v := .tuple #[u8, .int .i64 0]) (by simp [results, Tryz.results20, go_sem]) rfl (by rw [HXE.out]; exact EncI.gives h0 hij rfl)
      · have HFS := Lib.hid (show rspB ⟨op, vx, hrs.map rgK, pts⟩ ⟨v, k, l⟩ = [0, v] ++ l.flatMap rcB by unfold rspB; rw [if_neg h5]; simp)
        have d5 : (op == 5) = false := by rw [beq_eq_false_iff_ne]; exact h5
        clear h5
        go_upto_region 7 with (fail)
        rw [← HW3.out, ← HBL.out]
        have j0 := (hb3.cell (lt_of_cell j0)).trans j0
        have hi4 := hi3
        clear j4 j5 j6 hb3 hi3
        go_wp2
        obtain ⟨fs, hfs⟩ : ∃ fs : List Int, fs = [0, v] := ⟨_, rfl⟩
        rw [← hfs] at hi4
        have hfl : fs.length ≤ 4 := by rw [hfs]; simp
        have HF2 := Lib.hid hfs
        clear hfs
        go_loopw [8, 9] (fun b j wr => RspRel W fs l b j wr) (fun _ j _ => m - (intOf j).toNat)
        case atStart => exact ⟨0, rfl, Nat.zero_le _, by rw [List.take_zero, List.flatMap_nil, List.append_nil]; exact hi4⟩
        case round =>
          clear hi4
          obtain ⟨j, rfl, hj, hij⟩ := hrel
          have k2 := keepW hij.below a2
          by_cases hjm : j < l.length
          · obtain ⟨pb, po, rfl, hTq, hcq⟩ := HRow.out.at_ hjm
            have p0 : W.cell? ⟨pb, po + j * 2, none⟩ = some (.int .u64 (l[j]).live) := hcq 0 _ rfl
            have p1 : W.cell? ⟨pb, po + j * 2 + 1, none⟩ = some (.int .u64 (l[j]).id) := hcq 1 _ rfl
            have HFL := Lib.hid (flat_snoc rcB hjm)
            have HPS := Lib.hid (hU _ (List.getElem_mem hjm))
            have HL1 := Lib.hid (HLV.out _ (List.getElem_mem hjm))
            have hfl2 := flat_take_le rcB_len l j
            have q0 := keepW hij.below p0
            have q1 := keepW hij.below p1
            clear hcq p0 p1
            generalize l[j] = P at q0 q1 HFL HPS HL1
            have hx1 : 0 ≤ P.live ∧ P.live ≤ 1 := by have := HL1.out; omega
            have e6 : IntKind.u8.wrap P.live = P.live := wrap_u8' (by omega) (by omega)
            have hjr : (j : Int) < m := by have := HM.out; omega
            have hlen : (fs ++ (l.take j).flatMap rcB).length ≤ 100000 := by rw [List.length_append]; omega
            obtain ⟨Y, hY⟩ : ∃ Y, Y = fs ++ (l.take j).flatMap rcB := ⟨_, rfl⟩
            rw [← hY] at hij hlen
            have HY := Lib.hid hY
            have hlow : ∀ g, u8.ownBlock = some g → W.heap.size ≤ g := fun g hg => (World.ownsRow.lt hij.row g hg).1
            have hntB : ¬ u8.ownBlock = some (b + 1) := fun e => by have := hlow _ e; omega
            have hntq : ¬ u8.ownBlock = some pb := fun e => by have := hlow pb e; omega
            have hbs := hij.below.size
            clear hfl2 hY hlow
            go_wp2
            refine dirP_plain (by kernel_rfl) (fun b => u8.ownBlock = some b) 9 [8] 16 [[], [], [(48, 1)], [], [(49, 2), (50, 3)], [(51, 4)], [(52, 5)], [(53, 6)], [(54, 7)], [(47, 0), (55, 8)], [], [(57, 10)], [], [(58, 11), (59, 12)], [(60, 13)], [(61, 14)], [(56, 9), (62, 15)], [(63, 16)]] [(47, 0), (48, 1), (49, 2), (50, 3), (51, 4), (52, 5), (53, 6), (54, 7), (55, 8), (56, 9), (57, 10), (58, 11), (59, 12), (60, 13), (61, 14), (62, 15)] [
                (fun z_ => z_ = u8),
                (fun z_ => z_ = .pointer (some ⟨(b + 1), 2, none⟩)),
                (fun z_ => z_ = .slice (some ⟨pb, po, none⟩) m d),
                (fun z_ => z_ = .int .i64 j),
                (fun z_ => z_ = .pointer (some ⟨pb, po + j * 2, none⟩)),
                (fun z_ => z_ = .pointer (some ⟨pb, po + j * 2, none⟩)),
                (fun z_ => z_ = .int .u64 P.live),
                (fun z_ => z_ = .int .u8 P.live),
                (fun _ => True),
                (fun _ => True),
                (fun z_ => z_ = .pointer (some ⟨(b + 1), 2, none⟩)),
                (fun z_ => z_ = .slice (some ⟨pb, po, none⟩) m d),
                (fun z_ => z_ = .int .i64 j),
                (fun z_ => z_ = .pointer (some ⟨pb, po + j * 2, none⟩)),
                (fun z_ => z_ = .pointer (some ⟨pb, po + j * 2 + 1, none⟩)),
                (fun z_ => z_ = .int .u64 P.id)
              ] [(fun _ _ => True), (fun _ _ => True), (fun _ _ => True), (fun _ _ => True), (fun _ _ => True), (fun _ _ => True), (fun _ _ => True), (fun _ _ => True), (fun z_ w_ => ∃ g, z_ = .slice (some ⟨g, 0, none⟩) 1 1 ∧ RowR w_ (fun _ => True) 1 byC (some ⟨g, 0, none⟩) [P.live]), (fun _ _ => True), (fun _ _ => True), (fun _ _ => True), (fun _ _ => True), (fun _ _ => True), (fun _ _ => True), (fun _ _ => True)] (fun v' w' => Grew wr W.heap.size u8 (Y ++ [P.live]) v' w')
              (by kernel_rfl) (by kernel_rfl) (by kernel_rfl) (by decide) ⟨fun _ _ _ h _ => h, fun _ _ _ h _ => h, fun _ _ _ h _ => h, fun _ _ _ h _ => h, fun _ _ _ h _ => h, fun _ _ _ h _ => h, fun _ _ _ h _ => h, fun _ _ _ h _ => h, fun z_ w_ w2_ h hb => let ⟨g, h1, h2⟩ := h; ⟨g, h1, h2.next hb⟩, fun _ _ _ h _ => h, fun _ _ _ h _ => h, fun _ _ _ h _ => h, fun _ _ _ h _ => h, fun _ _ _ h _ => h, fun _ _ _ h _ => h, fun _ _ _ h _ => h, trivial⟩ (Grew.dst) ?steps (by decide) ?fin
            case steps =>
              refine ⟨?_, ?_, ?_, ?_, ?_, ?_, ?_, ?_, ?_, ?_, ?_, ?_, ?_, ?_, ?_, ?_, trivial⟩
              · intro vs g w2 hI hF hR K hK
                simp only [Facts, fill, Act.put, z1, z2, z3, z4, z5, Nat.reduceAdd] at hF hR hK ⊢
                go_simp
                exact hK _ _ _ (hI.step (by decide) (Below.refl _ _)) ⟨rfl, fun _ => Below.refl _ _⟩ ⟨updG_same _ _, rfl, fun _ => trivial, fun e => absurd e (by decide)⟩
              · intro vs g w2 hI hF hR K hK
                simp only [Facts, fill, Act.put, z1, z2, z3, z4, z5, Nat.reduceAdd] at hF hR hK ⊢
                go_simp
                exact hK _ _ _ (hI.step (by decide) (Below.refl _ _)) ⟨rfl, fun _ => Below.refl _ _⟩ ⟨updG_same _ _, rfl, fun _ => trivial, fun e => absurd e (by decide)⟩
              · intro vs g w2 hI hF hR K hK
                simp only [Facts, fill, Act.put, z1, z2, z3, z4, z5, Nat.reduceAdd] at hF hR hK ⊢
                obtain ⟨q1, -⟩ := hR
                have r1 : .pointer (some ⟨(b + 1), 2, none⟩) = vs 1 := Eq.symm q1.val
                generalize vs 1 = x1 at *
                subst r1
                have k0 := (hI.moved.cell (lt_of_cell k2) hntB).trans k2
                go_simp
                exact hK _ _ _ (hI.step (by decide) (Below.refl _ _)) ⟨rfl, fun _ => Below.refl _ _⟩ ⟨updG_same _ _, rfl, fun _ => trivial, fun e => absurd e (by decide)⟩
              · intro vs g w2 hI hF hR K hK
                simp only [Facts, fill, Act.put, z1, z2, z3, z4, z5, Nat.reduceAdd] at hF hR hK ⊢
                go_simp
                exact hK _ _ _ (hI.step (by decide) (Below.refl _ _)) ⟨rfl, fun _ => Below.refl _ _⟩ ⟨updG_same _ _, rfl, fun _ => trivial, fun e => absurd e (by decide)⟩
              · intro vs g w2 hI hF hR K hK
                simp only [Facts, fill, Act.put, z1, z2, z3, z4, z5, Nat.reduceAdd] at hF hR hK ⊢
                obtain ⟨q2, q3, -⟩ := hR
                have r2 : .slice (some ⟨pb, po, none⟩) m d = vs 2 := Eq.symm q2.val
                have r3 : .int .i64 j = vs 3 := Eq.symm q3.val
                generalize vs 2 = x2, vs 3 = x3 at *
                subst r2 r3
                go_simp
                exact hK _ _ _ (hI.step (by decide) (Below.refl _ _)) ⟨rfl, fun _ => Below.refl _ _⟩ ⟨updG_same _ _, rfl, fun _ => trivial, fun e => absurd e (by decide)⟩
              · intro vs g w2 hI hF hR K hK
                simp only [Facts, fill, Act.put, z1, z2, z3, z4, z5, Nat.reduceAdd] at hF hR hK ⊢
                obtain ⟨q4, -⟩ := hR
                have r4 : .pointer (some ⟨pb, po + j * 2, none⟩) = vs 4 := Eq.symm q4.val
                generalize vs 4 = x4 at *
                subst r4
                go_simp
                exact hK _ _ _ (hI.step (by decide) (Below.refl _ _)) ⟨rfl, fun _ => Below.refl _ _⟩ ⟨updG_same _ _, rfl, fun _ => trivial, fun e => absurd e (by decide)⟩
              · intro vs g w2 hI hF hR K hK
                simp only [Facts, fill, Act.put, z1, z2, z3, z4, z5, Nat.reduceAdd] at hF hR hK ⊢
                obtain ⟨q5, -⟩ := hR
                have r5 : .pointer (some ⟨pb, po + j * 2, none⟩) = vs 5 := Eq.symm q5.val
                generalize vs 5 = x5 at *
                subst r5
                have k0 := (hI.moved.cell (lt_of_cell q0) hntq).trans q0
                go_simp
                exact hK _ _ _ (hI.step (by decide) (Below.refl _ _)) ⟨rfl, fun _ => Below.refl _ _⟩ ⟨updG_same _ _, rfl, fun _ => trivial, fun e => absurd e (by decide)⟩
              · intro vs g w2 hI hF hR K hK
                simp only [Facts, fill, Act.put, z1, z2, z3, z4, z5, Nat.reduceAdd] at hF hR hK ⊢
                obtain ⟨q6, -⟩ := hR
                have r6 : .int .u64 P.live = vs 6 := Eq.symm q6.val
                generalize vs 6 = x6 at *
                subst r6
                go_simp
                exact hK _ _ _ (hI.step (by decide) (Below.refl _ _)) ⟨rfl, fun _ => Below.refl _ _⟩ ⟨updG_same _ _, rfl, fun _ => trivial, fun e => absurd e (by decide)⟩
              · intro vs g w2 hI hF hR K hK
                simp only [Facts, fill, Act.put, z1, z2, z3, z4, z5, Nat.reduceAdd] at hF hR hK ⊢
                obtain ⟨q7, -⟩ := hR
                have r7 : .int .u8 P.live = vs 7 := Eq.symm q7.val
                generalize vs 7 = x7 at *
                subst r7
                have hb : Below w2.heap.size w2 (w2.alloc (.cells #[.int .u8 P.live] 5)) := (Below.refl _ _).alloc (Nat.le_refl _) _
                go_simp
                exact hK _ _ _ (hI.step (by decide) hb) ⟨rfl, fun _ => hb⟩ ⟨updG_same _ _, trivial, fun _ => ⟨_, rfl, (row_lit (C := byC) byC_len [P.live]).imp fun _ _ => trivial⟩, fun e => absurd e (by decide)⟩
              · intro vs g w2 hI hF hR K hK
                simp only [Facts, fill, Act.put, z1, z2, z3, z4, z5, Nat.reduceAdd] at hF hR hK ⊢
                obtain ⟨q0, q8, -⟩ := hR
                have r0 : u8 = vs 0 := Eq.symm q0.val
                generalize vs 0 = x0, vs 8 = x8 at *
                subst r0
                have hB := hI.below hF
                obtain ⟨gl, rfl, hrl⟩ := q8.raw hF
                rw [if_pos (by rfl)]
                refine op_app_row elemB _ _ rfl W.heap.size u8 Y.length (Y.map (Value.int .u8)) rfl (hij.row.nextB hB) (some ⟨gl, 0, none⟩) 1 1 [P.live] _ rfl rfl hrl (fun h => by cases h) (by omega) (Nat.le_trans hbs hB.size) ?_
                intro v' w3 hrow hgrow hloc
                have hg : Grew wr W.heap.size u8 (Y ++ [P.live]) v' w3 := Grew.ahead hB ⟨by unfold OwnK; rw [List.length_append, List.map_append]; exact hrow, grown_moved hgrow, fun b hb => by rcases hloc with h | h; exact .inl (h ▸ hb); rw [h] at hb; injection hb with hb; exact .inr (by omega)⟩
                exact hK _ _ _ (hI.end_ (fun i hi => by simp at hi; subst hi; exact q8.up) hg.moved) ⟨rfl, fun e => absurd rfl e⟩ ⟨updG_same _ _, trivial, fun e => (by rw [updG_same] at e; cases e), fun _ => hg⟩
              · intro vs g w2 hI hF hR K hK
                simp only [Facts, fill, Act.put, z1, z2, z3, z4, z5, Nat.reduceAdd] at hF hR hK ⊢
                go_simp
                exact hK _ _ _ (hI.step (by decide) (Below.refl _ _)) ⟨rfl, fun _ => Below.refl _ _⟩ ⟨updG_same _ _, rfl, fun _ => trivial, fun e => absurd e (by decide)⟩
              · intro vs g w2 hI hF hR K hK
                simp only [Facts, fill, Act.put, z1, z2, z3, z4, z5, Nat.reduceAdd] at hF hR hK ⊢
                obtain ⟨q10, -⟩ := hR
                have r10 : .pointer (some ⟨(b + 1), 2, none⟩) = vs 10 := Eq.symm q10.val
                generalize vs 10 = x10 at *
                subst r10
                have k0 := (hI.moved.cell (lt_of_cell k2) hntB).trans k2
                go_simp
                exact hK _ _ _ (hI.step (by decide) (Below.refl _ _)) ⟨rfl, fun _ => Below.refl _ _⟩ ⟨updG_same _ _, rfl, fun _ => trivial, fun e => absurd e (by decide)⟩
              · intro vs g w2 hI hF hR K hK
                simp only [Facts, fill, Act.put, z1, z2, z3, z4, z5, Nat.reduceAdd] at hF hR hK ⊢
                go_simp
                exact hK _ _ _ (hI.step (by decide) (Below.refl _ _)) ⟨rfl, fun _ => Below.refl _ _⟩ ⟨updG_same _ _, rfl, fun _ => trivial, fun e => absurd e (by decide)⟩
              · intro vs g w2 hI hF hR K hK
                simp only [Facts, fill, Act.put, z1, z2, z3, z4, z5, Nat.reduceAdd] at hF hR hK ⊢
                obtain ⟨q11, q12, -⟩ := hR
                have r11 : .slice (some ⟨pb, po, none⟩) m d = vs 11 := Eq.symm q11.val
                have r12 : .int .i64 j = vs 12 := Eq.symm q12.val
                generalize vs 11 = x11, vs 12 = x12 at *
                subst r11 r12
                go_simp
                exact hK _ _ _ (hI.step (by decide) (Below.refl _ _)) ⟨rfl, fun _ => Below.refl _ _⟩ ⟨updG_same _ _, rfl, fun _ => trivial, fun e => absurd e (by decide)⟩
              · intro vs g w2 hI hF hR K hK
                simp only [Facts, fill, Act.put, z1, z2, z3, z4, z5, Nat.reduceAdd] at hF hR hK ⊢
                obtain ⟨q13, -⟩ := hR
                have r13 : .pointer (some ⟨pb, po + j * 2, none⟩) = vs 13 := Eq.symm q13.val
                generalize vs 13 = x13 at *
                subst r13
                go_simp
                exact hK _ _ _ (hI.step (by decide) (Below.refl _ _)) ⟨rfl, fun _ => Below.refl _ _⟩ ⟨updG_same _ _, rfl, fun _ => trivial, fun e => absurd e (by decide)⟩
              · intro vs g w2 hI hF hR K hK
                simp only [Facts, fill, Act.put, z1, z2, z3, z4, z5, Nat.reduceAdd] at hF hR hK ⊢
                obtain ⟨q14, -⟩ := hR
                have r14 : .pointer (some ⟨pb, po + j * 2 + 1, none⟩) = vs 14 := Eq.symm q14.val
                generalize vs 14 = x14 at *
                subst r14
                have k0 := (hI.moved.cell (lt_of_cell q1) hntq).trans q1
                go_simp
                exact hK _ _ _ (hI.step (by decide) (Below.refl _ _)) ⟨rfl, fun _ => Below.refl _ _⟩ ⟨updG_same _ _, rfl, fun _ => trivial, fun e => absurd e (by decide)⟩
            case fin =>
              intro vs w2 hm hpo hR
              have r15 : .int .u64 P.id = vs 15 := Eq.symm (hR 15 (by decide))
              simp only [fill, Act.put, z1, z2, z3, z4, z5] at ⊢
              clear hR
              generalize vs 15 = x15 at *
              generalize vs 9 = x9 at *
              subst r15
              have hlen2 : (Y ++ [P.live]).length ≤ 900000 := by rw [List.length_append]; simp; omega
              refine wpOps_step rfl rfl ?_
              go_simp
              refine (ref18Word_any W.heap.size _ (Y ++ [P.live]) P.id w2 hpo.row hlen2 (Nat.le_trans hbs hpo.moved.size) HPS.out.2).mono ?_
              rintro e w3 ⟨v3, rfl, hg3⟩
              refine wpOps_step rfl rfl ?_
              go_simp
              refine NoPanic.normal ?_
              have hi6 := hij.grow (hpo.trans hg3)
              go_wp2
              go_roundw
              case rel => exact ⟨j + 1, by go_num, hjm, by rw [HFL.out, ← List.append_assoc, ← HY.out, show rcB P = [P.live] ++ digs 8 P.id from rfl, ← List.append_assoc]; exact hi6⟩
              case measure => have := HM.out; simp [intOf]; omega
          · have hjr : ¬ ((j : Int) < m) := by have := HM.out; omega
            have HFA := Lib.hid (show l.take j = l from List.take_of_length_le (by omega))
            rw [HFA.out] at hij
            have HXB := Lib.hid (show bs = fs ++ l.flatMap rcB by rw [← HBB.out, if_pos HXE.out, HFS.out, HF2.out])
            rw [← HXB.out] at hij
            go_wp2
            exact bodyPost_ret (v := .tuple #[u8, .int .i64 0]) (by simp [results, Tryz.results20, go_sem]) rfl (by rw [HXE.out]; exact EncI.gives h0 hij rfl)
  · have HX := Lib.hid (show er = fe ∧ bs = [] by
      have h1 : er = fe := by rw [← HE.out]; unfold rspE; rw [HFE.out, if_pos hf]
      exact ⟨h1, by rw [← HBB.out, if_neg (by omega)]⟩)
    have d1 : (fe != 0) = true := by rw [bne_iff_ne]; exact hf
    have HF := Lib.hid hf
    clear hf
    go_wp2
    exact bodyPost_ret (v := .tuple #[.slice none 0 0, .int .i64 fe]) (by simp [results, Tryz.results20, go_sem]) rfl (by rw [HX.out.1]; exact givesB_bad HF.out HX.out.2 (h0.trans (hb1.mono h0.size)))
end Go.Proofs.YthmkllpdkcmccaaGreatDoor
namespace Go.Proofs.YthmkllpdkcmccaaGreatDoor
open Go.RowKit Go.Maps
set_option maxRecDepth 100000
set_option linter.unusedVariables false
set_option linter.unusedSimpArgs false

def WfE (l : List Ev) : Prop := ∀ e ∈ l, (Lit.int .i64 e.k).wf = true
theorem WfE.at_ {l : List Ev} (h : WfE l) {j : Nat} (hj : j < l.length) : (Lit.int .i64 (l[j]'hj).k).wf = true := h _ (List.getElem_mem hj)
theorem ref10Same_r (A B : Option Addr) (c d : Nat) (l m : List Ev) (T U : Nat → Prop) (w : World) (r : Bool) (ha : EvsR w T A l) (hb : EvsR w U B m) (hl : l.length ≤ 1000000) (hm : m.length ≤ 1000000) (hr : decide (l = m) = r) :
    Calls Tryz.prog 11 #[.slice A l.length c, .slice B m.length d] w fun e w' => e = .returned (.bool r) ∧ ∃ n, w' = w.drewN n := by rw [← hr]; exact ref10Same_any A B c d l m T U w ha hb hl hm
theorem tapeLen_r {v : Value} {l : List Ev} {T : Nat → Prop} {w : World} {r : Int} (h : TapeO w T v l) (hl : l.length ≤ 1000000) (hr : (l.length : Int) = r) : Calls Tryz.prog 17 #[v] w fun e w' => e = .returned (.int .i64 r) ∧ Below w.heap.size w w' := hr ▸ tapeLen_any v l T w h hl
end Go.Proofs.YthmkllpdkcmccaaGreatDoor
namespace Go.Proofs.YthmkllpdkcmccaaGreatDoor
open Go.RowKit Go.Maps
set_option maxRecDepth 100000
set_option linter.unusedVariables false
set_option linter.unusedSimpArgs false

/-- A list of regions that came in. -/
structure ArgG (w : World) (A : Option Addr) (c : Nat) (rs : List Rg) : Prop where
  row : RowR w (fun _ => True) 3 rgC A rs
  ok : RegsOk w (fun _ => True) rs
  nil : A = none → c = 0
theorem ArgG.next {w w' : World} {A : Option Addr} {c : Nat} {rs : List Rg} (h : ArgG w A c rs) (hb : Below w.heap.size w w') : ArgG w' A c rs := ⟨h.row.next hb, h.ok.next hb, h.nil⟩
def oneF (r : Rg) : Nat := 1 + min r.l.length 500
def totF (rs : List Rg) : Nat := (rs.map oneF).sum
def largeF (rs : List Rg) : Int := if 250 < totF rs then 1 else 0
theorem totF_snoc {rs : List Rg} {k : Nat} (h : k < rs.length) : totF (rs.take (k + 1)) = totF (rs.take k) + oneF rs[k] := by
  unfold totF; rw [List.take_succ_eq_append_getElem h, List.map_append, List.sum_append]; simp
theorem totF_le (rs : List Rg) (k : Nat) : totF (rs.take k) ≤ totF rs := by
  have e : totF rs = totF (rs.take k) + totF (rs.drop k) := by unfold totF; rw [← List.sum_append, ← List.map_append, List.take_append_drop]
  omega
theorem totF_len (rs : List Rg) : rs.length ≤ totF rs := by
  induction rs with
  | nil => simp
  | cons r rs ih =>
    have e : totF (r :: rs) = oneF r + totF rs := by unfold totF; rw [List.map_cons, List.sum_cons]
    rw [e, List.length_cons]; unfold oneF; omega
def LaRel (w : World) (rs : List Rg) (s i : Value) (wr : World) : Prop := ∃ k : Nat, i = .int .i64 k ∧ k ≤ rs.length ∧ s = .int .i64 (totF (rs.take k) : Nat) ∧ totF (rs.take k) ≤ 250 ∧ Below w.heap.size w wr
set_option maxHeartbeats 1000000 in
theorem large_any (A : Option Addr) (n c : Nat) (rs : List Rg) (r : Int) (T : Nat → Prop) (w : World) (ha : RowR w T 3 rgC A rs) (hn : n = rs.length) (hm : n ≤ 9223372036854775807) (hr : largeF rs = r) :
    Calls Tryz.prog 31 #[.slice A n c] w fun e w' => e = .returned (.int .i64 r) ∧ Below w.heap.size w w' := by
  have HN := Lib.hid hn
  have HR := Lib.hid hr
  clear hn hr
  go_enter Tryz.func31, Tryz.ntmps31
  go_wp2
  go_loopw [3, 8] (fun s i wr => LaRel w rs s i wr) (fun _ i _ => n - (intOf i).toNat)
  case atStart => exact ⟨0, rfl, Nat.zero_le _, rfl, Nat.zero_le _, Below.refl _ _⟩
  case round =>
    obtain ⟨k, rfl, hk, rfl, ht, hb⟩ := hrel
    rw [← HN.out] at hk
    by_cases hgo : k < n
    · have hgo2 : k < rs.length := by rw [← HN.out]; exact hgo
      have hlen := totF_len (rs.take k)
      rw [List.length_take] at hlen
      have hk250 : k ≤ 250 := by have := HN.out; omega
      have HT := Lib.hid (totF_snoc hgo2)
      have HLE := Lib.hid (totF_le rs (k + 1))
      obtain ⟨b, o, rfl, _, c0, c1, c2⟩ := (ha.next hb).rg2 hgo2
      generalize rs[k]'hgo2 = g at *
      obtain ⟨d, vv, A2, cp, l⟩ := g
      simp only at c0 c1 c2
      obtain ⟨t, ht0⟩ : ∃ t, totF (rs.take k) = t := ⟨_, rfl⟩
      rw [ht0] at ht HT
      obtain ⟨m, hm1⟩ : ∃ m : Nat, min l.length 500 = m := ⟨_, rfl⟩
      have hm2 : min (l.length : Int) 500 = (m : Int) := by rw [← hm1]; omega
      have hm3 : m ≤ 500 := by omega
      have HT2 := Lib.hid (show totF (rs.take (k + 1)) = t + (1 + m) by rw [HT.out, ← hm1]; rfl)
      have hs1 : IntKind.i64.wrap ((m : Int) + 1) = (m : Int) + 1 := wrap_i64' (by omega) (by omega)
      have hs2 : IntKind.i64.wrap (1 + (m : Int)) = 1 + (m : Int) := wrap_i64' (by omega) (by omega)
      have hs3 : IntKind.i64.wrap ((t : Int) + (1 + (m : Int))) = (t : Int) + (1 + (m : Int)) := wrap_i64' (by omega) (by omega)
      rw [ht0]
      clear ht0 hm1 hlen hgo2 ha
      have h3 := hb.alloc hb.size (.cells #[.bool d, .int .i64 vv, .slice A2 l.length cp] 53)
      by_cases hbig : 250 < t + (1 + m)
      · have hdb : (250 : Int) < (t : Int) + (1 + (m : Int)) := by omega
        have HE := Lib.hid (show r = 1 by
          rw [← HR.out]; unfold largeF
          rw [if_pos (by have := HLE.out; rw [HT2.out] at this; omega)])
        go_wp2
        go_ret
        exact ⟨by rw [HE.out]; rfl, h3⟩
      · have hdb : ¬ (250 : Int) < (t : Int) + (1 + (m : Int)) := by omega
        go_wp2
        go_roundw
        case rel => exact ⟨k + 1, by go_num, by rw [← HN.out]; omega, by rw [HT2.out]; push_cast; rfl, by rw [HT2.out]; omega, h3⟩
        case measure => simp [intOf]; omega
    · have HE := Lib.hid (show r = 0 by
        rw [← HR.out]; unfold largeF
        rw [List.take_of_length_le (by rw [← HN.out]; omega)] at ht
        rw [if_neg (by omega)])
      clear ha ht
      go_wp2
      go_ret
      exact ⟨by rw [HE.out]; rfl, hb⟩
end Go.Proofs.YthmkllpdkcmccaaGreatDoor
namespace Go.Proofs.YthmkllpdkcmccaaGreatDoor
open Go.RowKit Go.Maps
set_option maxRecDepth 100000
set_option linter.unusedVariables false
set_option linter.unusedSimpArgs false

theorem box3e {w W : World} {t : TypeId} {a b c : Value} (hW : W = w.alloc (.cells #[a, b, c] t)) :
    Below w.heap.size w W ∧ W.heap.size = w.heap.size + 1 ∧ W.cell? ⟨w.heap.size, 0, none⟩ = some a ∧ W.cell? ⟨w.heap.size, 1, none⟩ = some b ∧ W.cell? ⟨w.heap.size, 2, none⟩ = some c := by
  subst hW
  refine ⟨(Below.refl _ _).alloc (Nat.le_refl _) _, by simp, ?_, ?_, ?_⟩ <;> simp [go_sem]
theorem RowR.lowH {w : World} {T : Nat → Prop} {A : Option Addr} {l : List Rg} (h : RowR w T 3 rgC A l) : RowR w (fun b => b < w.heap.size) 3 rgC A l := (h.now (fun _ => by simp [rgC])).imp fun _ h => h.2
theorem reqLow {w : World} {T : Nat → Prop} {hA : Option Addr} {hn hc : Nat} {hrs : List Rg} {RA : Option Addr} {rn rc : Nat} {rs : List Rg} {PA : Option Addr} {pn pc : Nat} {ps : List Pt} {QA : Option Addr} {qn qc : Nat} {qs : List Qr} (h : ReqR w T hA hn hc hrs RA rn rc rs PA pn pc ps QA qn qc qs) :
    ReqR w (fun g => g < w.heap.size) hA hn hc hrs RA rn rc rs PA pn pc ps QA qn qc qs :=
  ⟨(h.hrow.now (fun _ => by simp [rgC])).imp fun _ h => h.2, h.hlen, (h.rrow.now (fun _ => by simp [rgC])).imp fun _ h => h.2, h.rlen, fun r hr => (⟨((h.rok r hr).row.now (fun _ => by simp [ptC])).imp fun _ h => h.2, (h.rok r hr).ss, (h.rok r hr).nil, (h.rok r hr).wf⟩ : RegOk w _ r), (h.prow.now (fun _ => by simp [ptC])).imp fun _ h => h.2, h.plen, h.pss, (h.qrow.now (fun _ => by simp [qrC])).imp fun _ h => h.2, h.qlen, h.qok, h.pcap⟩
theorem dst_evs {E : List Ev} : DStab (fun v w => ∃ A c, v = .slice A E.length c ∧ EvsR w (fun _ => True) A E) := fun v w w' ⟨A, c, e, h⟩ hb => ⟨A, c, e, h.next hb⟩
theorem ptsLit {w : World} (l : List Pt) : RowR (w.alloc (.cells (l.flatMap ptC).toArray 24)) (fun g => w.heap.size ≤ g) 2 ptC (some ⟨w.heap.size, 0, none⟩) l := row_lit (C := ptC) ptC_len l
set_option maxHeartbeats 2000000 in
theorem alive19_any (q : Int) (w : World) (hw : WtsC q w) : Calls Tryz.prog 7 #[] w fun e w' => e = .returned (.bool true) ∧ Below w.heap.size w w' := by
  have K1 := Lib.hid (show encE ⟨⟨1, 0, ([] : List Rg).map rgK, 0⟩, ([] : List Rg).map rgD, [⟨0, 0⟩, ⟨1, 0⟩, ⟨0, 1⟩], []⟩ (rgP []) = 0 by decide)
  have K2 := Lib.hid (show ansVw q 0 1 [] [⟨0, 0⟩, ⟨1, 0⟩, ⟨0, 1⟩] = (2, 0) by show (sgnP _ _ _ + 1, (0 : Int)) = _; decide +kernel)
  have K3 := Lib.hid (show encE ⟨⟨0, 0, ([] : List Rg).map rgK, 0⟩, ([] : List Rg).map rgD, [], []⟩ (rgP []) = 5 by decide)
  have K4 := Lib.hid (show ansVw q 5 0 [] [] = (0, 5) by rfl)
  have K5 := Lib.hid (show convV [⟨0, 0⟩, ⟨4, 0⟩, ⟨4, 4⟩, ⟨0, 4⟩] ⟨4, 2⟩ = 1 by decide +kernel)
  have K6 := Lib.hid (show convV [⟨0, 0⟩, ⟨1, 1⟩, ⟨2, 2⟩] ⟨0, 0⟩ = 3 by decide +kernel)
  have K7 := Lib.hid (show fencVw q [] ⟨0, 0⟩ = 2 by rfl)
  obtain ⟨W0, hW0⟩ : ∃ W, W = w.alloc (.cells #[.int .i64 0, .int .i64 0, .int .i64 1, .int .i64 0, .int .i64 0, .int .i64 1] 24) := ⟨_, rfl⟩
  have q0 : Below w.heap.size w W0 := by rw [hW0]; exact (Below.refl _ _).alloc (Nat.le_refl _) _
  have r0 : RowR W0 (fun g => w.heap.size ≤ g) 2 ptC (some ⟨w.heap.size, 0, none⟩) [⟨0, 0⟩, ⟨1, 0⟩, ⟨0, 1⟩] := by rw [hW0]; exact ptsLit [⟨0, 0⟩, ⟨1, 0⟩, ⟨0, 1⟩]
  have HW0 := Lib.hid hW0
  clear hW0
  go_enter Tryz.func7, Tryz.ntmps7
  go_wp2_with (fail)
  rw [← HW0.out]
  refine (engAnswer_n (Q := fun g => w.heap.size ≤ g) (er := 0) (r := (2, 0)) (hrs := []) (rs := []) (ps := [⟨0, 0⟩, ⟨1, 0⟩, ⟨0, 1⟩]) (qs := []) (hw.below q0) ⟨RowR.nil_ _ _ _, rfl, RowR.nil_ _ _ _, rfl, fun r hr => (by cases hr), r0, rfl, fun p hp => (by simp at hp; rcases hp with rfl | rfl | rfl <;> simp [S]), RowR.nil_ _ _ _, rfl, fun r hr => (by cases hr), Nat.le_refl _⟩
    ⟨by simp, by simp [S], fun r hr => (by cases hr)⟩ K1.out K2.out).mono ?_
  rintro e w1 ⟨⟨A1, c1, rfl⟩, hb1⟩
  obtain ⟨W1, hW1⟩ : ∃ W, W = w1.alloc (.cells #[.int .i64 2, .int .i64 0, .slice A1 0 c1] 44) := ⟨_, rfl⟩
  obtain ⟨x1, _, y0, _, _⟩ := box3e hW1
  obtain ⟨b1, hbb1⟩ : ∃ b, b = w1.heap.size := ⟨_, rfl⟩
  rw [← hbb1] at y0
  have q1 : Below w.heap.size w W1 := q0.trans ((hb1.trans (x1.mono hb1.size)).mono q0.size)
  have HW1 := Lib.hid hW1
  have HB1 := Lib.hid hbb1
  clear hW1 hbb1 hb1 x1 r0
  go_upto_region 2 with (fail)
  rw [← HW1.out, ← HB1.out]
  go_wp2_with (fail)
  refine (engAnswer_n (Q := fun g => w.heap.size ≤ g) (er := 5) (r := (0, 5)) (hrs := []) (rs := []) (ps := []) (qs := []) (hw.below q1) ⟨RowR.nil_ _ _ _, rfl, RowR.nil_ _ _ _, rfl, fun r hr => (by cases hr), RowR.nil_ _ _ _, rfl, fun p hp => (by cases hp), RowR.nil_ _ _ _, rfl, fun r hr => (by cases hr), Nat.le_refl _⟩
    ⟨by simp, by simp [S], fun r hr => (by cases hr)⟩ K3.out K4.out).mono ?_
  rintro e w2 ⟨⟨A2, c2, rfl⟩, hb2⟩
  obtain ⟨W2, hW2⟩ : ∃ W, W = (w2.alloc (.cells #[.int .i64 0, .int .i64 0, .slice A2 0 c2] 44)).alloc (.cells #[.int .i64 0, .int .i64 0, .int .i64 4, .int .i64 0, .int .i64 4, .int .i64 4, .int .i64 0, .int .i64 4] 24) := ⟨_, rfl⟩
  obtain ⟨b2, hbb2⟩ : ∃ b, b = w2.heap.size + 1 := ⟨_, rfl⟩
  have x2 : Below w2.heap.size w2 W2 := by rw [hW2]; exact ((Below.refl _ _).alloc (Nat.le_refl _) _).alloc (by simp) _
  have r2 : RowR W2 (fun g => w2.heap.size ≤ g) 2 ptC (some ⟨b2, 0, none⟩) [⟨0, 0⟩, ⟨4, 0⟩, ⟨4, 4⟩, ⟨0, 4⟩] := by
    rw [hW2, hbb2]
    have h := ptsLit (w := w2.alloc (.cells #[.int .i64 0, .int .i64 0, .slice A2 0 c2] 44)) [⟨0, 0⟩, ⟨4, 0⟩, ⟨4, 4⟩, ⟨0, 4⟩]
    simp only [World.size_alloc] at h
    exact h.imp fun g hg => by omega
  have hb12 : Below W1.heap.size W1 W2 := hb2.trans (x2.mono hb2.size)
  have q2 := q1.trans (hb12.mono q1.size)
  have y0 := keepW hb12 y0
  have HW2 := Lib.hid hW2
  have HB2 := Lib.hid hbb2
  clear hW2 hbb2 hb2 x2 hb12
  go_upto_region 4 with (fail)
  rw [← HW2.out, ← HB2.out]
  go_wp2_with (fail)
  refine (engConvex_n (p := ⟨4, 2⟩) (r := 1) (hw.below q2) r2 rfl (by simp) (fun p hp => (by simp at hp; rcases hp with rfl | rfl | rfl | rfl <;> simp [S])) (by simp [S]) K5.out).mono ?_
  rintro e w3 ⟨rfl, hb3⟩
  have q3 := q2.trans (hb3.mono q2.size)
  have r3 := r2.next hb3
  obtain ⟨W3, hW3⟩ : ∃ W, W = w3.alloc (.cells #[.int .i64 0, .int .i64 0, .int .i64 1, .int .i64 1, .int .i64 2, .int .i64 2] 24) := ⟨_, rfl⟩
  have x3 : Below w3.heap.size w3 W3 := by rw [hW3]; exact (Below.refl _ _).alloc (Nat.le_refl _) _
  have r4 : RowR W3 (fun g => w3.heap.size ≤ g) 2 ptC (some ⟨w3.heap.size, 0, none⟩) [⟨0, 0⟩, ⟨1, 1⟩, ⟨2, 2⟩] := by rw [hW3]; exact ptsLit [⟨0, 0⟩, ⟨1, 1⟩, ⟨2, 2⟩]
  have q4 := q3.trans (x3.mono q3.size)
  have r5 := r3.next x3
  obtain ⟨z0, z1⟩ := r3.pt2 (k := 0) (by decide)
  obtain ⟨v0, v1⟩ := r5.pt2 (k := 0) (by decide)
  rw [Nat.zero_mul] at z0 z1 v0 v1
  have z0 : w3.cell? ⟨b2, 0, none⟩ = some (.int .i64 0) := z0
  have z1 : w3.cell? ⟨b2, 1, none⟩ = some (.int .i64 0) := z1
  have v0 : W3.cell? ⟨b2, 0, none⟩ = some (.int .i64 0) := v0
  have v1 : W3.cell? ⟨b2, 1, none⟩ = some (.int .i64 0) := v1
  have v0' : (w3.alloc (.cells #[.int .i64 0, .int .i64 0, .int .i64 1, .int .i64 1, .int .i64 2, .int .i64 2] 24)).cell? ⟨b2, 0, none⟩ = some (.int .i64 0) := by rw [← hW3]; exact v0
  have v1' : (w3.alloc (.cells #[.int .i64 0, .int .i64 0, .int .i64 1, .int .i64 1, .int .i64 2, .int .i64 2] 24)).cell? ⟨b2, 1, none⟩ = some (.int .i64 0) := by rw [← hW3]; exact v1
  have HW3 := Lib.hid hW3
  clear hW3 y0
  go_wp2_with (fail)
  rw [← HW3.out]
  refine (engConvex_n (p := ⟨0, 0⟩) (r := 3) (hw.below q4) r4 rfl (by simp) (fun p hp => (by simp at hp; rcases hp with rfl | rfl | rfl <;> simp [S])) (by simp [S]) K6.out).mono ?_
  rintro e w5 ⟨rfl, hb5⟩
  have q5 := q4.trans (hb5.mono q4.size)
  have u0 := keepW hb5 v0
  have u1 := keepW hb5 v1
  clear v0' v1' z0 z1 v0 v1
  go_wp2_with (fail)
  refine (engFence_n (Q := fun _ => True) (rs := []) (p := ⟨0, 0⟩) (r := 2) (hw.below q5) (RowR.nil_ _ _ _) (fun r hr => (by cases hr)) rfl (by simp) (by simp [S]) K7.out).mono ?_
  rintro e w6 ⟨rfl, hb6⟩
  go_wp2
  go_ret
  exact ⟨rfl, q5.trans (hb6.mono q5.size)⟩
set_option maxHeartbeats 1000000 in
theorem large19_any (op vx pts : Int) (hA : Option Addr) (hn hc : Nat) (hrs : List Rg) (RA : Option Addr) (rn rc : Nat) (rs : List Rg) (PA : Option Addr) (pn pc : Nat) (ps : List Pt) (QA : Option Addr) (qn qc : Nat) (qs : List Qr) (T : Nat → Prop) (w : World) (hr : RowR w T 3 rgC RA rs) (hrn : rn = rs.length) (hrl : rn ≤ 9223372036854775807) :
    Calls Tryz.prog 15 #[.agg #[.int .i64 op, .int .i64 vx, .slice hA hn hc, .int .i64 pts, .slice RA rn rc, .slice PA pn pc, .slice QA qn qc]] w fun e w' => ∃ r : Int, e = .returned (.int .i64 r) ∧ (r = 0 ∨ r = 1) ∧ (r = 0 → largeF rs = 0 ∧ hn ≤ 100 ∧ pn ≤ 100 ∧ qn ≤ 1000) ∧ Below w.heap.size w w' := by
  obtain ⟨W, hW⟩ : ∃ W, W = w.alloc (.cells #[.int .i64 op, .int .i64 vx, .slice hA hn hc, .int .i64 pts, .slice RA rn rc, .slice PA pn pc, .slice QA qn qc] 40) := ⟨_, rfl⟩
  obtain ⟨B, hB⟩ : ∃ b, b = w.heap.size := ⟨_, rfl⟩
  obtain ⟨h0, hsW, g0, g1, g2, g3, g4, g5, g6⟩ := box7 hW
  rw [← hB] at g0 g1 g2 g3 g4 g5 g6
  have HRow := Lib.hid (hr.next h0)
  have HRN := Lib.hid hrn
  have HW := Lib.hid hW
  have HB := Lib.hid hB
  obtain ⟨z, hz⟩ : ∃ z, largeF rs = z := ⟨_, rfl⟩
  have HZ := Lib.hid hz
  have hz1 : z = 0 ∨ z = 1 := by rw [← hz]; unfold largeF; split <;> simp
  clear hW hB hr hrn hz
  go_enter Tryz.func15, Tryz.ntmps15
  go_upto_region 1 with (fail)
  rw [← HW.out, ← HB.out]
  go_wp2_with (fail)
  refine (large_any RA rn rc rs z _ W HRow.out HRN.out hrl HZ.out).mono ?_
  rintro e w1 ⟨rfl, hb1⟩
  have q1 := h0.trans (hb1.mono h0.size)
  have k2 := keepW hb1 g2
  have k5 := keepW hb1 g5
  have k6 := keepW hb1 g6
  clear g0 g1 g2 g3 g4 g5 g6
  rcases hz1 with rfl | rfl
  · by_cases e1 : 100 < (hn : Int)
    · go_wp2
      go_ret
      exact ⟨1, rfl, .inr rfl, fun h => (by cases h), q1⟩
    · by_cases e2 : 100 < (pn : Int)
      · go_wp2
        go_ret
        exact ⟨1, rfl, .inr rfl, fun h => (by cases h), q1⟩
      · by_cases e3 : 1000 < (qn : Int)
        · go_wp2
          go_ret
          exact ⟨1, rfl, .inr rfl, fun h => (by cases h), q1⟩
        · go_wp2
          go_ret
          exact ⟨0, rfl, .inl rfl, fun _ => ⟨HZ.out, by omega, by omega, by omega⟩, q1⟩
  · go_wp2
    go_ret
    exact ⟨1, rfl, .inr rfl, fun h => (by cases h), q1⟩
theorem rspE_one {op vx pts v : Int} {ks : List (Bool × Int)} (hk : Okh ⟨op, vx, ks, pts⟩) (hop : op ≠ 5) {p : Bool} (hp : p = false) (hv : 0 ≤ v ∧ v ≤ mostA op) : rspE ⟨op, vx, ks, pts⟩ p ⟨v, 0, []⟩ = 0 := by
  have hf : formErr ⟨op, vx, ks, pts⟩ p = 0 := formErr_ok.2 ⟨hk, hp⟩
  have h0 := hk.pts0 hop
  simp only at h0
  subst h0
  unfold rspE
  rw [hf, if_neg (by simp), if_pos]
  unfold isA
  rw [Bool.and_eq_true]
  refine ⟨headA_iff.2 ⟨hv.1, hv.2, rfl, by simp, by simp, by simp⟩, rfl⟩
theorem ansV_split {q er op : Int} {rs : List Rg} {ps : List Pt} {v e : Int} (h : ansVw q er op rs ps = (v, e)) : (er ≠ 0 ∧ v = 0 ∧ e = er) ∨ (er = 0 ∧ op = 5 ∧ v = 0 ∧ e = 2) ∨ (er = 0 ∧ op ≠ 5 ∧ v = valEw q op rs ps ∧ e = 0) := by
  unfold ansVw at h
  by_cases h1 : er = 0
  · rw [if_neg (by simpa using h1)] at h
    by_cases h2 : op = 5
    · rw [if_pos h2] at h; injection h with h3 h4; exact .inr (.inl ⟨h1, h2, h3.symm, h4.symm⟩)
    · rw [if_neg h2] at h; injection h with h3 h4; exact .inr (.inr ⟨h1, h2, h3.symm, h4.symm⟩)
  · rw [if_pos h1] at h; injection h with h3 h4; exact .inl ⟨h1, h3.symm, h4.symm⟩
set_option maxHeartbeats 2000000 in
theorem law_engineRanges (q op vx pts : Int) (hA : Option Addr) (hn hc : Nat) (hrs : List Rg) (RA : Option Addr) (rn rc : Nat) (rs : List Rg) (PA : Option Addr) (pn pc : Nat) (ps : List Pt) (QA : Option Addr) (qn qc : Nat) (qs : List Qr) (w : World) (hw : WtsC q w) (hr : ReqR w (fun _ => True) hA hn hc hrs RA rn rc rs PA pn pc ps QA qn qc qs) (hN : ReqN op vx pts hn rn pn qn hrs) :
    Calls Tryz.prog 6 #[.agg #[.int .i64 op, .int .i64 vx, .slice hA hn hc, .int .i64 pts, .slice RA rn rc, .slice PA pn pc, .slice QA qn qc]] w fun e w' => e = .returned (.bool true) ∧ Below w.heap.size w w' := by
  obtain ⟨W, hW⟩ : ∃ W, W = w.alloc (.cells #[.int .i64 op, .int .i64 vx, .slice hA hn hc, .int .i64 pts, .slice RA rn rc, .slice PA pn pc, .slice QA qn qc] 40) := ⟨_, rfl⟩
  obtain ⟨B, hB⟩ : ∃ b, b = w.heap.size := ⟨_, rfl⟩
  obtain ⟨h0, hsW, g0, g1, g2, g3, g4, g5, g6⟩ := box7 hW
  rw [← hB] at g0 g1 g2 g3 g4 g5 g6
  have HRQ := Lib.hid (hr.next h0)
  have HN := Lib.hid hN
  have HW := Lib.hid hW
  have HB := Lib.hid hB
  have HG := Lib.hid (ReqAt.mk g0 g1 g2 g3 g4 g5 g6)
  have hBW : B < W.heap.size := by omega
  obtain ⟨er, her⟩ : ∃ er, encE ⟨⟨op, vx, hrs.map rgK, pts⟩, rs.map rgD, ps, qs⟩ (rgP hrs) = er := ⟨_, rfl⟩
  obtain ⟨P, hP⟩ : ∃ P, ansVw q er op rs ps = P := ⟨_, rfl⟩
  obtain ⟨v, e2⟩ := P
  have HE := Lib.hid her
  have HP := Lib.hid hP
  clear hW hB hr hN her hsW hP
  go_enter Tryz.func6, Tryz.ntmps6
  go_upto_region 1 with (fail)
  rw [← HW.out, ← HB.out]
  go_wp2_with (fail)
  refine (large19_any op vx pts hA hn hc hrs RA rn rc rs PA pn pc ps QA qn qc qs _ W HRQ.out.rrow HRQ.out.rlen HN.out.len.2.1).mono ?_
  rintro e w1 ⟨z, rfl, hz, _, hb1⟩
  have q1 := h0.trans (hb1.mono h0.size)
  clear g0 g1 g2 g3 g4 g5 g6
  rcases hz with rfl | rfl
  · obtain ⟨k0, k1, k2, k3, k4, k5, k6⟩ := HG.out.next hb1 hBW
    go_wp2_with (fail)
    refine (engAnswer_n (hw.below q1) (HRQ.out.next hb1) HN.out HE.out HP.out).mono ?_
    rintro e w2 ⟨⟨A2, c2, rfl⟩, hb2⟩
    simp only
    obtain ⟨W2, hW2⟩ : ∃ W, W = w2.alloc (.cells #[.int .i64 v, .int .i64 0, .slice A2 0 c2] 44) := ⟨_, rfl⟩
    obtain ⟨x2, _, y0, y1, y2⟩ := box3e hW2
    obtain ⟨b2, hbb2⟩ : ∃ b, b = w2.heap.size := ⟨_, rfl⟩
    rw [← hbb2] at y0 y1 y2
    have hb12 := hb1.trans ((hb2.trans (x2.mono hb2.size)).mono hb1.size)
    have q2 := h0.trans (hb12.mono h0.size)
    have HW2 := Lib.hid hW2
    have HB2 := Lib.hid hbb2
    clear k0 k1 k2 k3 k4 k5 k6 hb2 x2 hW2 hbb2
    obtain ⟨k0, k1, k2, k3, k4, k5, k6⟩ := HG.out.next hb12 hBW
    go_upto_region 4 with (fail)
    rw [← HW2.out, ← HB2.out]
    by_cases he2 : e2 = 0
    · have hv := ansV_split HP.out
      obtain ⟨her0, hop, hval⟩ : er = 0 ∧ op ≠ 5 ∧ v = valEw q op rs ps := by
        rcases hv with ⟨h1, _, h3⟩ | ⟨_, _, _, h3⟩ | ⟨h1, h2, h3, _⟩
        · exact absurd (h3.symm.trans he2) h1
        · exact absurd (h3.symm.trans he2) (by decide)
        · exact ⟨h1, h2, h3⟩
      subst he2
      have h5 := encE_ok (HE.out.trans her0)
      have h6 := h5.1.op
      have HRS := Lib.hid (rspE_one (v := v) h5.1 hop h5.2.1 (by rw [hval]; exact valE_in q op rs ps h6.1 (by simp only at h6; omega)))
      clear hv her0 hop hval h5 h6
      go_wp2_with (fail)
      refine (ref18Respond_any op vx pts hA hn hc hrs v 0 A2 0 c2 [] 0 _ W2 ((HRQ.out.next hb12).hrow.lowH) HRQ.out.hlen HN.out.len.1 (RowR.nil_ _ _ _) rfl (by simp) (fun r hr => (by cases hr)) HRS.out rfl).mono ?_
      rintro e w3 ⟨v3, rfl, hown3, hb3⟩
      have q3 := q2.trans (hb3.mono q2.size)
      clear hown3
      go_wp2_with (fail)
      refine (alive19_any q w3 (hw.below q3)).mono ?_
      rintro e w4 ⟨rfl, hb4⟩
      go_wp2
      go_ret
      exact ⟨rfl, q3.trans (hb4.mono q3.size)⟩
    · have d1 : (e2 != 0) = true := by rw [bne_iff_ne]; exact he2
      have hv0 : v = 0 := by
        rcases ansV_split HP.out with ⟨_, h, _⟩ | ⟨_, _, h, _⟩ | ⟨_, _, _, h⟩
        · exact h
        · exact h
        · exact absurd h he2
      subst hv0
      clear he2
      go_wp2_with (fail)
      refine (alive19_any q W2 (hw.below q2)).mono ?_
      rintro e w4 ⟨rfl, hb4⟩
      have y0 := keepW hb4 y0
      go_wp2
      go_ret
      exact ⟨rfl, q2.trans (hb4.mono q2.size)⟩
  · go_wp2_with (fail)
    refine (alive19_any q w1 (hw.below q1)).mono ?_
    rintro e w4 ⟨rfl, hb4⟩
    go_wp2
    go_ret
    exact ⟨rfl, q1.trans (hb4.mono q1.size)⟩
theorem evE_hdr {op vx pts : Int} {ks : List (Bool × Int)} (hk : Okh ⟨op, vx, ks, pts⟩) : (op = 4 → ks.length ≤ 64) ∧ (op = 4 → ∀ x ∈ ks, 0 ≤ x.2 ∧ x.2 ≤ 64) ∧ (op = 3 → 0 ≤ vx ∧ vx ≤ 64) := by
  refine ⟨fun h => (hk.len (show 4 ≤ op by omega)).2, fun h x hx => ?_, fun h => ?_⟩
  · have h1 := hk.ok (show 4 ≤ op by omega)
    simp only at h1
    unfold anyBad at h1
    have h2 : ¬ decide (sizeF x.2 = 0) = true := List.any_eq_false.1 h1 x hx
    have h3 : sizeF x.2 ≠ 0 := by simpa using h2
    unfold sizeF at h3
    split at h3
    · omega
    · split at h3
      · omega
      · exact absurd rfl h3
  · have := hk.vs3 h
    simp only at this
    omega
set_option maxHeartbeats 2000000 in
theorem law_engineEvents (q op vx pts : Int) (hA : Option Addr) (hn hc : Nat) (hrs : List Rg) (RA : Option Addr) (rn rc : Nat) (rs : List Rg) (PA : Option Addr) (pn pc : Nat) (ps : List Pt) (QA : Option Addr) (qn qc : Nat) (qs : List Qr) (w : World) (hw : WtsC q w) (hr : ReqR w (fun _ => True) hA hn hc hrs RA rn rc rs PA pn pc ps QA qn qc qs) (hN : ReqN op vx pts hn rn pn qn hrs) :
    Calls Tryz.prog 4 #[.agg #[.int .i64 op, .int .i64 vx, .slice hA hn hc, .int .i64 pts, .slice RA rn rc, .slice PA pn pc, .slice QA qn qc]] w fun e w' => e = .returned (.bool true) ∧ Below w.heap.size w w' := by
  obtain ⟨W, hW⟩ : ∃ W, W = w.alloc (.cells #[.int .i64 op, .int .i64 vx, .slice hA hn hc, .int .i64 pts, .slice RA rn rc, .slice PA pn pc, .slice QA qn qc] 40) := ⟨_, rfl⟩
  obtain ⟨B, hB⟩ : ∃ b, b = w.heap.size := ⟨_, rfl⟩
  obtain ⟨h0, hsW, g0, g1, g2, g3, g4, g5, g6⟩ := box7 hW
  rw [← hB] at g0 g1 g2 g3 g4 g5 g6
  have HRQ := Lib.hid (hr.next h0)
  have HRL := Lib.hid (reqLow hr)
  have HN := Lib.hid hN
  have HW := Lib.hid hW
  have HB := Lib.hid hB
  have HG := Lib.hid (ReqAt.mk g0 g1 g2 g3 g4 g5 g6)
  have hBW : B < W.heap.size := by omega
  obtain ⟨er, her⟩ : ∃ er, encE ⟨⟨op, vx, hrs.map rgK, pts⟩, rs.map rgD, ps, qs⟩ (rgP hrs) = er := ⟨_, rfl⟩
  obtain ⟨P, hP⟩ : ∃ P, ansVw q er op rs ps = P := ⟨_, rfl⟩
  obtain ⟨v, e2⟩ := P
  have HE := Lib.hid her
  have HP := Lib.hid hP
  have HLE := Lib.hid (ansE_len (er := er) (op := op) (vs := vx) (pts := pts) (ks := hrs.map rgK) (fun h => (encE_ok (her.trans h)).1))
  have hs0 := h0.size
  clear hW hB hr hN her hsW hP
  go_enter Tryz.func4, Tryz.ntmps4
  go_upto_region 1 with (fail)
  rw [← HW.out, ← HB.out]
  go_wp2_with (fail)
  refine (large19_any op vx pts hA hn hc hrs RA rn rc rs PA pn pc ps QA qn qc qs _ W HRQ.out.rrow HRQ.out.rlen HN.out.len.2.1).mono ?_
  rintro e w1 ⟨z, rfl, hz, _, hb1⟩
  have q1 := h0.trans (hb1.mono h0.size)
  clear g0 g1 g2 g3 g4 g5 g6
  rcases hz with rfl | rfl
  · go_wp2_with (fail)
    refine (tapeNew_any w1).mono ?_
    rintro e w2 ⟨tb, rfl, ht, hb2⟩
    have q2 := q1.trans (hb2.mono q1.size)
    have hb12 := hb1.trans (hb2.mono hb1.size)
    have hs1 := q1.size
    have hs2 := hb2.size
    have ht := ht.now
    obtain ⟨k0, k1, k2, k3, k4, k5, k6⟩ := HG.out.next hb12 hBW
    go_wp2_with (fail)
    refine (engAnswer_c q (.pointer (some ⟨tb, 0, none⟩)) [] (fun g => w1.heap.size ≤ g ∧ g < w2.heap.size) (fun b => b < w.heap.size) op vx pts hA hn hc hrs RA rn rc rs PA pn pc ps QA qn qc qs er (v, e2) w2 (fun W' hm => hw.below (hm.below q2 (fun g hg => by omega) q2.size)) ht.o (by simp)
      (HRL.out.next q2) (fun b hb h => by omega) HN.out HE.out HP.out).mono ?_
    rintro e w3 ⟨⟨A3, c3, rfl⟩, ht3, hm3⟩
    simp only
    rw [addT_some, List.nil_append] at ht3
    have hb13 : Below W.heap.size W w3 := hm3.below hb12 (fun g hg => by have := hb1.size; omega) hb12.size
    have q3 := h0.trans (hb13.mono h0.size)
    obtain ⟨W4, hW4⟩ : ∃ W, W = w3.alloc (.cells #[.int .i64 v, .int .i64 0, .slice A3 0 c3] 44) := ⟨_, rfl⟩
    obtain ⟨x4, _, y0, y1, y2⟩ := box3e hW4
    obtain ⟨b4, hbb4⟩ : ∃ b, b = w3.heap.size := ⟨_, rfl⟩
    rw [← hbb4] at y0 y1 y2
    have hb14 := hb13.trans (x4.mono hb13.size)
    have q4 := h0.trans (hb14.mono h0.size)
    have ht4 := ht3.next x4
    have HW4 := Lib.hid hW4
    have HB4 := Lib.hid hbb4
    clear k0 k1 k2 k3 k4 k5 k6 ht ht3 x4 hW4 hbb4 hm3
    obtain ⟨k0, k1, k2, k3, k4, k5, k6⟩ := HG.out.next hb14 hBW
    go_upto_region 5 with (fail)
    rw [← HW4.out, ← HB4.out]
    by_cases he2 : e2 = 0
    · have hv := ansV_split HP.out
      obtain ⟨her0, hop⟩ : er = 0 ∧ op ≠ 5 := by
        rcases hv with ⟨h1, _, h3⟩ | ⟨_, _, _, h3⟩ | ⟨h1, h2, _, _⟩
        · exact absurd (h3.symm.trans he2) h1
        · exact absurd (h3.symm.trans he2) (by decide)
        · exact ⟨h1, h2⟩
      subst he2
      have h5 := encE_ok (HE.out.trans her0)
      have h6 := evE_hdr h5.1
      obtain ⟨E, hE⟩ : ∃ E, evE op vx (hrs.map rgK) = E := ⟨_, rfl⟩
      have hEE : ansE er op vx (hrs.map rgK) = E := by unfold ansE; rw [if_pos her0]; exact hE
      rw [hEE] at ht4
      have HL := Lib.hid (show E.length ≤ 600000 by rw [← hEE]; exact HLE.out)
      have HEV := Lib.hid hE
      have HK1 := Lib.hid (fun h : op = 4 => by have := h6.1 h; rw [List.length_map] at this; exact this : op = 4 → hrs.length ≤ 64)
      have HK2 := Lib.hid (fun (h : op = 4) (x : Rg) (hx : x ∈ hrs) => h6.2.1 h (rgK x) (List.mem_map_of_mem hx))
      have HK3 := Lib.hid h6.2.2
      clear hv her0 hop h5 h6 hE hEE
      go_wp2
      refine dir_plain (by kernel_rfl) 10 [[], [(25, 0)], [(26, 1)], [(26, 1), (27, 2)], [(26, 1)], [(26, 1), (29, 4)], [(26, 1), (30, 5)], [(26, 1), (28, 3), (31, 6)], [(26, 1), (32, 7)], [(33, 8)]] [(25, 0), (26, 1), (27, 2), (28, 3), (29, 4), (30, 5), (31, 6), (32, 7), (33, 8), (2, 9)] [
          (fun v _ => v = .bool true),
          (fun v _ => v = .bool true),
          (fun v _ => v = .pointer (some ⟨tb, 0, none⟩)),
          (fun v w => ∃ A c, v = .slice A E.length c ∧ EvsR w (fun _ => True) A E),
          (fun v _ => v = .pointer (some ⟨B, 0, none⟩)),
          (fun v _ => v = .agg #[.int .i64 op, .int .i64 vx, .slice hA hn hc, .int .i64 pts]),
          (fun v w => ∃ A c, v = .slice A E.length c ∧ EvsR w (fun _ => True) A E),
          (fun v _ => v = .bool true),
          (fun v _ => v = .bool true),
          (fun v _ => v = .bool true)
        ] (by kernel_rfl) (by kernel_rfl) (by kernel_rfl) (by decide) ⟨dstab_eq, dstab_eq, dstab_eq, dst_evs, dstab_eq, dstab_eq, dst_evs, dstab_eq, dstab_eq, dstab_eq, trivial⟩ ?steps ?fin
      case steps =>
        refine ⟨?_, ?_, ?_, ?_, ?_, ?_, ?_, ?_, ?_, ?_, trivial⟩
        · intro vs g w2 hI hF hR K hK
          simp only [Facts, fill, Act.put, z1, z2, z3, z4, z5, Nat.reduceAdd] at hF hR hK ⊢
          go_simp
          refine (alive19_any q w2 (hw.below (q4.trans (hI.mono q4.size)))).mono ?_
          rintro e w3 ⟨rfl, hb⟩
          exact hK _ () _ (hI.trans (hb.mono hI.size)) hb rfl
        · intro vs g w2 hI hF hR K hK
          simp only [Facts, fill, Act.put, z1, z2, z3, z4, z5, Nat.reduceAdd] at hF hR hK ⊢
          obtain ⟨r0, -⟩ := hR
          generalize vs 0 = x0 at *
          subst r0
          go_simp
          exact hK _ () _ hI (Below.refl _ _) rfl
        · intro vs g w2 hI hF hR K hK
          simp only [Facts, fill, Act.put, z1, z2, z3, z4, z5, Nat.reduceAdd] at hF hR hK ⊢
          obtain ⟨r1, -⟩ := hR
          generalize vs 1 = x1 at *
          subst r1
          go_simp
          exact hK _ () _ hI (Below.refl _ _) rfl
        · intro vs g w2 hI hF hR K hK
          simp only [Facts, fill, Act.put, z1, z2, z3, z4, z5, Nat.reduceAdd] at hF hR hK ⊢
          obtain ⟨r1, r2, -⟩ := hR
          generalize vs 1 = x1, vs 2 = x2 at *
          subst r1 r2
          go_simp
          refine (tapeEvents_any _ E _ w2 (ht4.next hI) (by have := HL.out; omega)).mono ?_
          rintro e w3 ⟨A6, c6, rfl, _, hev6, hb6⟩
          exact hK _ () _ (hI.trans (hb6.mono hI.size)) hb6 ⟨A6, c6, rfl, hev6.imp fun _ _ => trivial⟩
        · intro vs g w2 hI hF hR K hK
          simp only [Facts, fill, Act.put, z1, z2, z3, z4, z5, Nat.reduceAdd] at hF hR hK ⊢
          obtain ⟨r1, -⟩ := hR
          generalize vs 1 = x1 at *
          subst r1
          go_simp
          exact hK _ () _ hI (Below.refl _ _) rfl
        · intro vs g w2 hI hF hR K hK
          simp only [Facts, fill, Act.put, z1, z2, z3, z4, z5, Nat.reduceAdd] at hF hR hK ⊢
          obtain ⟨r1, r4, -⟩ := hR
          generalize vs 1 = x1, vs 4 = x4 at *
          subst r1 r4
          have k0 := (hI.cell (lt_of_cell k0)).trans k0
          have k1 := (hI.cell (lt_of_cell k1)).trans k1
          have k2 := (hI.cell (lt_of_cell k2)).trans k2
          have k3 := (hI.cell (lt_of_cell k3)).trans k3
          go_simp
          exact hK _ () _ hI (Below.refl _ _) rfl
        · intro vs g w2 hI hF hR K hK
          simp only [Facts, fill, Act.put, z1, z2, z3, z4, z5, Nat.reduceAdd] at hF hR hK ⊢
          obtain ⟨r1, r5, -⟩ := hR
          generalize vs 1 = x1, vs 5 = x5 at *
          subst r1 r5
          go_simp
          refine (ref19Events_any op vx pts hA hn hc hrs E _ w2 (HRL.out.next (q4.trans (hI.mono q4.size))).hrow HRQ.out.hlen (fun h => by rw [HRQ.out.hlen]; exact HK1.out h) HK2.out HK3.out HEV.out).mono ?_
          rintro e w3 ⟨v7, rfl, hown7, hb7⟩
          obtain ⟨A7, c7, rfl, _, _, hev7⟩ := own_evs hown7
          exact hK _ () _ (hI.trans (hb7.mono hI.size)) hb7 ⟨A7, c7, rfl, hev7.imp fun _ _ => trivial⟩
        · intro vs g w2 hI hF hR K hK
          simp only [Facts, fill, Act.put, z1, z2, z3, z4, z5, Nat.reduceAdd] at hF hR hK ⊢
          obtain ⟨r1, r3, r6, -⟩ := hR
          generalize vs 1 = x1, vs 3 = x3, vs 6 = x6 at *
          subst r1
          obtain ⟨A6, c6, e6, hev6⟩ := r3
          obtain ⟨A7, c7, e7, hev7⟩ := r6
          subst e6 e7
          go_simp
          refine (ref10Same_r A6 A7 c6 c7 E E _ _ w2 true hev6 hev7 (by have := HL.out; omega) (by have := HL.out; omega) (by simp)).mono ?_
          rintro e w3 ⟨rfl, n8, rfl⟩
          have hb : Below w2.heap.size w2 (w2.drewN n8) := below_drewN' (Below.refl _ _) n8
          exact hK _ () _ (hI.trans (hb.mono hI.size)) hb rfl
        · intro vs g w2 hI hF hR K hK
          simp only [Facts, fill, Act.put, z1, z2, z3, z4, z5, Nat.reduceAdd] at hF hR hK ⊢
          obtain ⟨r1, r7, -⟩ := hR
          generalize vs 1 = x1, vs 7 = x7 at *
          subst r1 r7
          go_simp
          exact hK _ () _ hI (Below.refl _ _) rfl
        · intro vs g w2 hI hF hR K hK
          simp only [Facts, fill, Act.put, z1, z2, z3, z4, z5, Nat.reduceAdd] at hF hR hK ⊢
          obtain ⟨r8, -⟩ := hR
          generalize vs 8 = x8 at *
          subst r8
          go_simp
          exact hK _ () _ hI (Below.refl _ _) rfl
      case fin =>
        intro vs w2 hI hR
        have r9 := hR 9 (by decide)
        simp only [fill, Act.put, z1, z2, z3, z4, z5] at r9 ⊢
        clear hR
        generalize vs 9 = x9 at *
        subst r9
        refine NoPanic.normal ?_
        go_wp2
        go_ret
        exact ⟨rfl, q4.trans (hI.mono q4.size)⟩
    · have d1 : (e2 != 0) = true := by rw [bne_iff_ne]; exact he2
      have hE0 : ansE er op vx (hrs.map rgK) = [] := by
        unfold ansE
        rcases ansV_split HP.out with ⟨h, _, _⟩ | ⟨h, h5, _, _⟩ | ⟨_, _, _, h⟩
        · rw [if_neg h]
        · rw [if_pos h]; exact evE_no (by omega) (by omega)
        · exact absurd h he2
      rw [hE0] at ht4
      clear he2 hE0
      go_wp2_with (fail)
      refine (alive19_any q W4 (hw.below q4)).mono ?_
      rintro e w5 ⟨rfl, hb5⟩
      have q5 := q4.trans (hb5.mono q4.size)
      have ht5 := ht4.next hb5
      go_wp2_with (fail)
      refine (tapeLen_r ht5 (by simp) rfl).mono ?_
      rintro e w6 ⟨rfl, hb6⟩
      go_wp2
      go_ret
      exact ⟨rfl, q5.trans (hb6.mono q5.size)⟩
  · go_wp2_with (fail)
    refine (alive19_any q w1 (hw.below q1)).mono ?_
    rintro e w4 ⟨rfl, hb4⟩
    go_wp2
    go_ret
    exact ⟨rfl, q1.trans (hb4.mono q1.size)⟩
end Go.Proofs.YthmkllpdkcmccaaGreatDoor
namespace Go.Proofs.YthmkllpdkcmccaaGreatDoor
open Go.RowKit
set_option maxRecDepth 100000
set_option linter.unusedVariables false
set_option linter.unusedSimpArgs false

theorem ref19Convex_any (A : Option Addr) (c n : Nat) (l : List Pt) (p : Pt) (r : Int) (T : Nat → Prop) (w : World) (ha : RowR w T 2 ptC A l) (hn : n = l.length) (hl : n ≤ 1000000) (hS : SsP l) (hp : S p.x ∧ S p.y) (hr : convV l p = r) :
    Calls Tryz.prog 10 #[.slice A n c, .agg #[.int .i64 p.x, .int .i64 p.y]] w fun e w' => e = .returned (.int .i64 r) ∧ Below w.heap.size w w' := by
  have h0 : Below w.heap.size w (w.alloc (.cells #[.int .i64 p.x, .int .i64 p.y] 24)) := (Below.refl _ _).alloc (Nat.le_refl _) _
  have c0 : (w.alloc (.cells #[.int .i64 p.x, .int .i64 p.y] 24)).cell? ⟨w.heap.size, 0, none⟩ = some (.int .i64 p.x) := by simp [go_sem]
  have c1 : (w.alloc (.cells #[.int .i64 p.x, .int .i64 p.y] 24)).cell? ⟨w.heap.size, 1, none⟩ = some (.int .i64 p.y) := by simp [go_sem]
  have HN := Lib.hid hn
  obtain ⟨z, hz⟩ : ∃ z, validP l = z := ⟨_, rfl⟩
  have HZ := Lib.hid hz
  have HR := Lib.hid hr
  clear hn hz hr
  go_enter Tryz.func10, Tryz.ntmps10
  go_wp2_with (fail)
  refine (ref14Valid_any A c n l z T _ (ha.next h0) HN.out hS HZ.out).mono ?_
  rintro e w1 ⟨rfl, hb1⟩
  have h1 := h0.trans (hb1.mono h0.size)
  have d0 := (hb1.cell (p := ⟨w.heap.size, 0, none⟩) (lt_of_cell c0)).trans c0
  have d1 := (hb1.cell (p := ⟨w.heap.size, 1, none⟩) (lt_of_cell c1)).trans c1
  clear c0 c1
  cases z with
  | false =>
    have HX := Lib.hid (show r = 3 by rw [← HR.out]; unfold convV; rw [HZ.out]; rfl)
    go_wp2
    go_ret
    exact ⟨by rw [HX.out]; rfl, h1⟩
  | true =>
    obtain ⟨q, hq⟩ : ∃ q, locP l p = q := ⟨_, rfl⟩
    have hqb := locP_in l p HZ.out
    rw [hq] at hqb
    have HX := Lib.hid (show r = q + 1 by rw [← HR.out]; unfold convV; rw [if_pos HZ.out, hq])
    have HQ := Lib.hid hq
    clear hq
    have e1 : IntKind.i64.wrap (q + 1) = q + 1 := wrap_i64' (by omega) (by omega)
    go_wp2_with (fail)
    refine (ref14Locate_any A c n l p q T w1 (ha.next h1) HN.out hl hS hp HQ.out).mono ?_
    rintro e w2 ⟨rfl, hb2⟩
    go_wp2
    go_ret
    exact ⟨by rw [HX.out]; rfl, h1.trans (hb2.mono h1.size)⟩
end Go.Proofs.YthmkllpdkcmccaaGreatDoor
namespace Go.Proofs.YthmkllpdkcmccaaGreatDoor
open Go.RowKit Go.Maps
set_option maxRecDepth 100000
set_option linter.unusedVariables false
set_option linter.unusedSimpArgs false

/-- A list of points that came in. -/
structure ArgP (w : World) (A : Option Addr) (c : Nat) (l : List Pt) : Prop where
  row : RowR w (fun _ => True) 2 ptC A l
  ss : SsP l
  nil : A = none → c = 0
theorem RowR.lowP {w : World} {A : Option Addr} {l : List Pt} (h : RowR w (fun _ => True) 2 ptC A l) : RowR w (fun b => b < w.heap.size) 2 ptC A l := (h.now (fun _ => by simp [ptC])).imp fun _ h => h.2
end Go.Proofs.YthmkllpdkcmccaaGreatDoor
namespace Go.Proofs.YthmkllpdkcmccaaGreatDoor
open Go.RowKit Go.Maps
set_option maxRecDepth 100000
set_option linter.unusedVariables false
set_option linter.unusedSimpArgs false

theorem dst_own19x {base n : Nat} {t : TypeId} {k : Nat} {xs : List Value} : DStab (fun v w => w.ownsRow base t k v n xs) := fun v w w' h hb => row_keep h fun g hg => hb.block g (h.lt g hg).2
/-- append under a guard that holds. -/
theorem wp_app_rowG {P : Program} {t e : TypeId} {k : Nat} {α : Type} {C : α → List Value} (E : ElemT P t e k C) {ops : Array Oper} {rest : List Oper} {o : Oper} {a : Act} {Q : Exit → Act → World → Prop} {w : World} (hgd : Region.wanted o (yielded ops a.tmps) = true) (s x : Operand)
    (ho : o.op = .call { callee := .builtin .append, args := #[s, x], argTypes := #[t, t] }) (base : Nat) (v : Value) (n : Nat) (xs : List Value) (hs : a.eval s = v) (hown : w.ownsRow base e k v n xs)
    (A : Option Addr) (c m : Nat) (l : List α) (T : Nat → Prop) (hx : a.eval x = .slice A m c) (hm : m = l.length) (hl : RowR w T k C A l) (hc : A = none → c = 0) (h1 : n + m ≤ 1000000) (hbase : base ≤ w.heap.size)
    (h : ∀ v' w', w'.ownsRow base e k v' (n + m) (xs ++ l.flatMap C) → w.grownBy w' v.ownBlock → (v'.ownBlock = v.ownBlock ∨ v'.ownBlock = some w.heap.size) → wpList P ops Q rest (a.put o.dst v') w') : wpList P ops Q (o :: rest) a w := by
  rw [wpList, if_pos hgd]
  exact .inl (op_app_row E s x ho base v n xs hs hown A c m l T hx hm hl hc h1 hbase h)
set_option maxHeartbeats 2000000 in
theorem law_engineConvex (q : Int) (A : Option Addr) (c : Nat) (l : List Pt) (p : Pt) (w : World) (hw : WtsC q w) (ha : ArgP w A c l) (hp : S p.x ∧ S p.y) :
    Calls Tryz.prog 3 #[.slice A l.length c, .agg #[.int .i64 p.x, .int .i64 p.y]] w fun e w' => e = .returned (.bool true) ∧ Below w.heap.size w w' := by
  have h00 : Below w.heap.size w (w.alloc (.cells #[.int .i64 p.x, .int .i64 p.y] 24)) := (Below.refl _ _).alloc (Nat.le_refl _) _
  by_cases hgt : 70 < l.length
  · go_enter Tryz.func3, Tryz.ntmps3
    go_wp2_with (fail)
    refine (alive19_any q _ (hw.below (h00))).mono ?_
    rintro e w1 ⟨rfl, hb⟩
    go_wp2
    go_ret
    exact ⟨rfl, (h00).trans (hb.mono (h00).size)⟩
  · obtain ⟨N, hN⟩ : ∃ N, N = l.length := ⟨_, rfl⟩
    obtain ⟨W, hW⟩ : ∃ W, W = w.alloc (.cells #[.int .i64 p.x, .int .i64 p.y] 24) := ⟨_, rfl⟩
    obtain ⟨bx, hbx⟩ : ∃ bx, bx = w.heap.size := ⟨_, rfl⟩
    have h0 : Below w.heap.size w W := by rw [hW]; exact h00
    have kx0 : W.cell? ⟨bx, 0, none⟩ = some (.int .i64 p.x) := by rw [hW, hbx]; simp [go_sem]
    have kx1 : W.cell? ⟨bx, 1, none⟩ = some (.int .i64 p.y) := by rw [hW, hbx]; simp [go_sem]
    have hbW : bx < W.heap.size := lt_of_cell kx0
    have hl : N ≤ 1000000 := by omega
    have hg7 : ¬ 70 < N := by omega
    have hN7 : N ≤ 70 := by omega
    obtain ⟨E1, hE1⟩ : ∃ E1, validE N = E1 := ⟨_, rfl⟩
    obtain ⟨E2, hE2⟩ : ∃ E2, locateE N = E2 := ⟨_, rfl⟩
    obtain ⟨r, hr⟩ : ∃ r, convV l p = r := ⟨_, rfl⟩
    have hl1 := validE_len N
    have hl2 := locateE_len N
    rw [hE1] at hl1
    rw [hE2] at hl2
    obtain ⟨E, hE⟩ : ∃ E, E = E1 ++ E2 := ⟨_, rfl⟩
    have HEE := Lib.hid hE
    have HL := Lib.hid (show E1.length ≤ 300000 ∧ E2.length ≤ 300000 by omega)
    have HLE := Lib.hid (show E.length ≤ 1000000 by rw [hE, List.length_append]; omega)
    have HP := Lib.hid hp
    have HN := Lib.hid hN
    have HW := Lib.hid hW
    have HB := Lib.hid hbx
    have HE1 := Lib.hid hE1
    have HE2 := Lib.hid hE2
    have HR := Lib.hid hr
    rw [← hN]
    clear hN hW hbx hgt hp h00 hE1 hE2 hl1 hl2 hE hr
    go_enter Tryz.func3, Tryz.ntmps3
    go_upto_region 3 with (fail)
    rw [← HW.out, ← HB.out]
    go_wp2_with (fail)
    refine (tapeNew_any W).mono ?_
    rintro e w1 ⟨tb, rfl, ht, hb1⟩
    have h1 := h0.trans (hb1.mono h0.size)
    have hs0 := h0.size
    have hs1 := hb1.size
    have ht := ht.now
    have k0 := keepW hb1 kx0
    have k1 := keepW hb1 kx1
    have hrow := ha.row.lowP.next h1
    go_wp2_with (fail)
    refine (engConvex_c q _ [] (fun g => W.heap.size ≤ g ∧ g < w1.heap.size) (fun b => b < w.heap.size) A N c l p r w1 (fun W' hm => hw.below (hm.below h1 (fun g hg => by omega) h1.size)) ht.o (by simp) hrow (fun b hb h => by omega) HN.out hl ha.ss HP.out HR.out).mono ?_
    rintro e w3 ⟨rfl, ht3, hm3⟩
    have h3 := hm3.below h1 (fun g hg => by omega) h1.size
    rw [addT_some, List.nil_append, HE1.out, HE2.out, ← HEE.out] at ht3
    have k0 := (hm3.cell (p := ⟨bx, 0, none⟩) (by show bx < w1.heap.size; omega) (fun h => by have : W.heap.size ≤ bx := h.1; omega)).trans k0
    have k1 := (hm3.cell (p := ⟨bx, 1, none⟩) (by show bx < w1.heap.size; omega) (fun h => by have : W.heap.size ≤ bx := h.1; omega)).trans k1
    clear ht hm3 hrow hb1 kx0 kx1
    go_wp2_with (fail)
    refine (alive19_any q w3 (hw.below h3)).mono ?_
    rintro e wa ⟨rfl, hba⟩
    have qa := h3.trans (hba.mono h3.size)
    have k0 := keepW hba k0
    have k1 := keepW hba k1
    go_wp2_with (fail)
    refine (ref19Convex_any A c N l p r _ wa (ha.row.next qa) HN.out hl ha.ss HP.out HR.out).mono ?_
    rintro e wb ⟨rfl, hbb2⟩
    have hab := hba.trans (hbb2.mono hba.size)
    go_wp2_with (fail)
    refine (tapeEvents_any _ E _ wb (ht3.next hab) HLE.out).mono ?_
    rintro e wc ⟨A6, c6, rfl, _, hev6, hbc⟩
    have hac := hab.trans (hbc.mono hab.size)
    have qc := h3.trans (hac.mono h3.size)
    clear ht3 k0 k1 hba hbb2 hbc hab hac
    go_wp2_with (fail)
    refine (ref14ValidEvents_any N E1 wc hl HE1.out).mono ?_
    rintro e w5 ⟨v5, rfl, hown5, hb5⟩
    go_wp2_with (fail)
    refine (ref14LocateEvents_any N E2 w5 hl HE2.out).mono ?_
    rintro e w6 ⟨v6, rfl, hown6, hb6⟩
    have hown5 := (dst_own19x _ _ _ hown5 hb6 : w6.ownsRow wc.heap.size 73 3 v5 E1.length (E1.flatMap evC))
    obtain ⟨A5, c5, rfl, hn5, hev5⟩ := own_evN hown6
    have hb36 := hb5.trans (hb6.mono hb5.size)
    have hL := HL.out
    go_wp2_with (first
      | (at_builtin; refine wp_app_rowG elemEv rfl _ _ rfl wc.heap.size _ E1.length (E1.flatMap evC) rfl hown5 A5 c5 E2.length E2 _ rfl rfl hev5.row hn5 (by omega) hb36.size ?_
         intro v9 w9 hown9 hgrow9 _
         have hbb : Below wc.heap.size wc w9 := hb36.grown hgrow9 hb36.size (fun g hg => (World.ownsRow.lt hown5 g hg).1)
         clear hown5 hgrow9 hev5 hn5 hown6 hb5 hb6 hb36 hL
         obtain ⟨A9, c9, rfl, _, _, hev9⟩ := own_evs (own_evA HEE.out hown9)))
    refine (ref10Same_r A6 A9 c6 c9 E E _ _ w9 true (hev6.next hbb) hev9 HLE.out HLE.out (by simp)).mono ?_
    rintro e wd ⟨rfl, n8, rfl⟩
    have hb : Below w9.heap.size w9 (w9.drewN n8) := below_drewN' (Below.refl _ _) n8
    have qd := qc.trans ((hbb.trans (hb.mono hbb.size)).mono qc.size)
    go_wp2
    go_ret
    exact ⟨rfl, qd⟩
end Go.Proofs.YthmkllpdkcmccaaGreatDoor
namespace Go.Proofs.YthmkllpdkcmccaaGreatDoor
open Go.ChangeShapes Go.WideShapes Go.ChangeAt Go.RowKit

/-- A premise on the world's shape may be added. -/
theorem handed_shape {a : Assume} {C : Checked} {os : Os} {f : FuncId} {r : Reach} {Pre Pre1 : World → Array Value → Prop} {Post : World → Array Value → Value → World → Prop}
    (h1 : ∀ w args, Pre1 w args → Pre w args) (h2 : ∀ w args, w.ShapedOpen C.prog → Pre w args → Pre1 w args) (h : ReturnsInHanded a C os f r Pre1 Post) : ReturnsInHanded a C os f r Pre Post := by
  intro hm
  obtain ⟨e1, e2, e3, ⟨w, tape, i, k1, k2, k3, k4, k5, k6⟩, e5⟩ := h hm
  refine ⟨e1, e2, e3, ⟨w, tape, i, k1, k2, k3, k4, h1 _ _ k5, k6⟩, ?_⟩
  intro w tape i ⟨k1, k2, k3, k4, k5, k6⟩
  exact e5 w tape i ⟨k1, k2, k3, k4, h2 _ _ (World.ShapedOpen.of_heap (by rfl) k2) k5, k6⟩
set_option maxRecDepth 100000 in
theorem wanted_of_shape {W : World} (h : W.ShapedOpen Tryz.prog) : ∃ q, S q ∧ W.cell? ⟨2, 1, none⟩ = some (.int .i64 q) := by
  obtain ⟨cs, hh, hs, hr⟩ := h.1 2 #[.int .i64 0, .int .i64 0] 206 (by decide +kernel) (by kernel_rfl)
  have hbu : Tryz.prog.buildable 206 = true := by kernel_rfl
  have hts2 : Tryz.prog.cellTypes Tryz.prog.depth 206 = some [2, 2] := by kernel_rfl
  obtain ⟨ts, hts, _, hall⟩ := hr hbu
  have hts3 : ts = [2, 2] := Option.some.inj (hts.symm.trans hts2)
  subst hts3
  have hs2 : cs.size = 2 := hs
  have hl : 1 < cs.size := by omega
  obtain ⟨u, hu, hok⟩ := hall 1 cs[1] (by simp [hl])
  have hu2 : u = 2 := by simpa using hu.symm
  subst hu2
  have hcell : W.cell? ⟨2, 1, none⟩ = some cs[1] := by simp [World.cell?, hh, hl]
  rw [hcell]
  unfold Cell.ok at hok
  rw [Tryz.underlying2] at hok
  cases hv : cs[1] <;> rw [hv] at hok <;> simp at hok
  case int k n =>
    obtain ⟨rfl, hn⟩ := hok
    have h1 : IntKind.i64.min ≤ n ∧ n ≤ IntKind.i64.max := hn
    have e1 : IntKind.i64.min = -9223372036854775808 := by decide
    have e2 : IntKind.i64.max = 9223372036854775807 := by decide
    rw [e1, e2] at h1
    have hS : S n := by
      unfold S
      omega
    exact ⟨n, hS, rfl⟩
theorem wtsC_of_shape {W : World} (hw : Wts W) (h : W.ShapedOpen Tryz.prog) : ∃ q, WtsC q W := by
  obtain ⟨q, h1, h2⟩ := wanted_of_shape h
  exact ⟨q, hw, h2, h1⟩
end Go.Proofs.YthmkllpdkcmccaaGreatDoor
namespace Go.Proofs.YthmkllpdkcmccaaGreatDoor
open Go.RowKit Go.ChangeShapes Go.WideShapes
set_option maxRecDepth 100000
set_option linter.unusedVariables false
set_option linter.unusedSimpArgs false

section
variable {H : Type} {enc : TypeId × Value → H} {P : Program} {W : World} {base : Nat} {held : Bool}
theorem rg_cells {e ep : TypeId} {f0 f1 f2 g0 g1 : Field} {n : Nat} {cs : List Value} {y : DataW H × List MemPlace} (hu : P.underlying e = some (.struct #[f0, f1, f2])) (h0 : P.underlying f0.type = some .bool) (h1 : P.underlying f1.type = some (.int .i64)) (h2 : P.underlying f2.type = some (.slice ep))
    (o : f0.offset = 0 ∧ f1.offset = 1 ∧ f2.offset = 2) (c : P.cellsOf f0.type = 1 ∧ P.cellsOf f1.type = 1 ∧ P.cellsOf f2.type = 1) (ct : P.cellsOf e = 3)
    (hp : P.underlying ep = some (.struct #[g0, g1])) (p0 : P.underlying g0.type = some (.int .i64)) (p1 : P.underlying g1.type = some (.int .i64)) (po : g0.offset = 0 ∧ g1.offset = 1) (pc : P.cellsOf g0.type = 1 ∧ P.cellsOf g1.type = 1) (pt : P.cellsOf ep = 2)
    (h : DataW.trod enc P W base (fun _ => true) held n e cs = some y) : ∃ r : Rg, cs = rgC r ∧ RegOk W (fun _ => True) r := by
  obtain ⟨y0, y1, y2, m, _, hl, k0, k1, k2⟩ := Go.Deep.trod_struct3 hu h
  rw [ct] at hl
  rw [o.1, c.1] at k0
  rw [o.2.1, c.2.1] at k1
  rw [o.2.2, c.2.2] at k2
  match cs, hl with
  | [v0, v1, v2], _ =>
    obtain ⟨d, hd, _⟩ := DataW.trod_bool h0 k0
    obtain ⟨v, hv, _, wv⟩ := DataW.trod_int h1 k1
    obtain ⟨A, cp, l, hs, hrow, hwf, hlc, _, hnil⟩ := row_cells (k := 2) ptC (fun x => (Lit.int .i64 x.x).wf = true ∧ (Lit.int .i64 x.y).wf = true) h2 pt (by decide)
      (fun _ _ _ h => by obtain ⟨a, b, e, h1, h2⟩ := ints2_cells hp p0 p1 po pc pt h; exact ⟨⟨a, b⟩, e, h1, h2⟩) k2
    simp [Value.cells] at hd hv hs
    exact ⟨⟨d, v, A, cp, l⟩, by rw [hd, hv, hs]; rfl, ⟨hrow, fun q hq => ⟨S_of_wf (hwf q hq).1, S_of_wf (hwf q hq).2⟩, hnil, S_of_wf wv⟩⟩
end
end Go.Proofs.YthmkllpdkcmccaaGreatDoor
namespace Go.Proofs.YthmkllpdkcmccaaGreatDoor
open Go.RowKit Go.ChangeShapes Go.WideShapes
set_option maxRecDepth 100000
set_option linter.unusedVariables false
set_option linter.unusedSimpArgs false

/-- A header in memory. -/
structure Hx where
  op : Int
  vx : Int
  A : Option Addr
  c : Nat
  l : List Rg
  pts : Int
def hdC (x : Hx) : List Value := [.int .i64 x.op, .int .i64 x.vx, .slice x.A x.l.length x.c, .int .i64 x.pts]
structure HxOk (W : World) (x : Hx) : Prop where
  op : (Lit.int .i64 x.op).wf = true
  vx : (Lit.int .i64 x.vx).wf = true
  pts : (Lit.int .i64 x.pts).wf = true
  row : RowR W (fun _ => True) 3 rgC x.A x.l
  regs : ∀ r ∈ x.l, RegOk W (fun _ => True) r
  cap : x.l.length ≤ x.c
  max : x.c ≤ maxLen
section
variable {H : Type} {enc : TypeId × Value → H} {P : Program} {W : World} {base : Nat} {held : Bool}
theorem trod_struct4x {t : TypeId} {f0 f1 f2 f3 : Field} {spare : Nat → Bool} {fuel : Nat} {cs : List Value} {x : DataW H × List MemPlace} (ht : P.underlying t = some (.struct #[f0, f1, f2, f3])) (h : DataW.trod enc P W base spare held fuel t cs = some x) :
    ∃ y0 y1 y2 y3 n, cs.length = P.cellsOf t ∧ DataW.trod enc P W base spare held n f0.type ((cs.drop f0.offset).take (P.cellsOf f0.type)) = some y0 ∧
      DataW.trod enc P W base spare held n f1.type ((cs.drop f1.offset).take (P.cellsOf f1.type)) = some y1 ∧ DataW.trod enc P W base spare held n f2.type ((cs.drop f2.offset).take (P.cellsOf f2.type)) = some y2 ∧ DataW.trod enc P W base spare held n f3.type ((cs.drop f3.offset).take (P.cellsOf f3.type)) = some y3 := by
  obtain ⟨xs, n, _, rfl, hl, hlen, hf⟩ := DataW.trod_struct ht h
  match xs, hlen with
  | [y0, y1, y2, y3], _ => exact ⟨y0, y1, y2, y3, n, hl, by simpa using hf 0 f0 rfl, by simpa using hf 1 f1 rfl, by simpa using hf 2 f2 rfl, by simpa using hf 3 f3 rfl⟩
theorem hd_cells {e er : TypeId} {f0 f1 f2 f3 : Field} {n : Nat} {cs : List Value} {y : DataW H × List MemPlace} (hu : P.underlying e = some (.struct #[f0, f1, f2, f3])) (h0 : P.underlying f0.type = some (.int .i64)) (h1 : P.underlying f1.type = some (.int .i64)) (h2 : P.underlying f2.type = some (.slice er)) (h3 : P.underlying f3.type = some (.int .i64))
    (o : f0.offset = 0 ∧ f1.offset = 1 ∧ f2.offset = 2 ∧ f3.offset = 3) (c : P.cellsOf f0.type = 1 ∧ P.cellsOf f1.type = 1 ∧ P.cellsOf f2.type = 1 ∧ P.cellsOf f3.type = 1) (ct : P.cellsOf e = 4) (cr : P.cellsOf er = 3)
    (hE : ∀ n cs y, DataW.trod enc P W base (fun _ => true) held n er cs = some y → ∃ r : Rg, cs = rgC r ∧ RegOk W (fun _ => True) r)
    (h : DataW.trod enc P W base (fun _ => true) held n e cs = some y) : ∃ x : Hx, cs = hdC x ∧ HxOk W x := by
  obtain ⟨y0, y1, y2, y3, m, hl, k0, k1, k2, k3⟩ := trod_struct4x hu h
  rw [ct] at hl
  rw [o.1, c.1] at k0
  rw [o.2.1, c.2.1] at k1
  rw [o.2.2.1, c.2.2.1] at k2
  rw [o.2.2.2, c.2.2.2] at k3
  match cs, hl with
  | [v0, v1, v2, v3], _ =>
    obtain ⟨a, ha, _, wa⟩ := DataW.trod_int h0 k0
    obtain ⟨b, hb, _, wb⟩ := DataW.trod_int h1 k1
    obtain ⟨d, hd, _, wd⟩ := DataW.trod_int h3 k3
    obtain ⟨A, cp, l, hs, hrow, hwf, hlc, hmx, _⟩ := row_cells (k := 3) rgC (fun x => RegOk W (fun _ => True) x) h2 cr (by decide) hE k2
    simp [Value.cells] at ha hb hd hs
    exact ⟨⟨a, b, A, cp, l, d⟩, by rw [ha, hb, hd, hs]; rfl, ⟨wa, wb, wd, hrow, hwf, hlc, hmx⟩⟩
end
end Go.Proofs.YthmkllpdkcmccaaGreatDoor
namespace Go.Proofs.YthmkllpdkcmccaaGreatDoor
open Go.RowKit Go.ChangeShapes Go.WideShapes
set_option maxRecDepth 100000
set_option linter.unusedVariables false
set_option linter.unusedSimpArgs false

/-- A request in memory. -/
structure Rx where
  h : Hx
  RA : Option Addr
  rc : Nat
  rs : List Rg
  PA : Option Addr
  pc : Nat
  ps : List Pt
  QA : Option Addr
  qc : Nat
  qs : List Qr
def rxC (x : Rx) : List Value := [.int .i64 x.h.op, .int .i64 x.h.vx, .slice x.h.A x.h.l.length x.h.c, .int .i64 x.h.pts, .slice x.RA x.rs.length x.rc, .slice x.PA x.ps.length x.pc, .slice x.QA x.qs.length x.qc]
structure RxOk (W : World) (x : Rx) : Prop where
  h : HxOk W x.h
  req : ReqR W (fun _ => True) x.h.A x.h.l.length x.h.c x.h.l x.RA x.rs.length x.rc x.rs x.PA x.ps.length x.pc x.ps x.QA x.qs.length x.qc x.qs
  max : x.h.l.length ≤ maxLen ∧ x.rs.length ≤ maxLen ∧ x.ps.length ≤ maxLen ∧ x.qs.length ≤ maxLen
section
variable {H : Type} {enc : TypeId × Value → H} {P : Program} {W : World} {base : Nat} {held : Bool}
theorem qr_cells {e : TypeId} {f0 f1 : Field} {n : Nat} {cs : List Value} {y : DataW H × List MemPlace} (hu : P.underlying e = some (.struct #[f0, f1])) (h1 : P.underlying f1.type = some (.int .u64)) (o : f0.offset = 0 ∧ f1.offset = 2) (c : P.cellsOf f0.type = 2 ∧ P.cellsOf f1.type = 1) (ct : P.cellsOf e = 3)
    (hP : ∀ n cs y, DataW.trod enc P W base (fun _ => true) held n f0.type cs = some y → ∃ p : Pt, cs = ptC p ∧ (Lit.int .i64 p.x).wf = true ∧ (Lit.int .i64 p.y).wf = true)
    (h : DataW.trod enc P W base (fun _ => true) held n e cs = some y) : ∃ q : Qr, cs = qrC q ∧ OkQ q := by
  obtain ⟨y0, y1, m, _, hl, k0, k1⟩ := trod_struct2 hu h
  rw [ct] at hl
  rw [o.1, c.1] at k0
  rw [o.2, c.2] at k1
  match cs, hl with
  | [v0, v1, v2], _ =>
    obtain ⟨p, hp, wx, wy⟩ := hP _ _ _ k0
    obtain ⟨b, hb, _, wb⟩ := DataW.trod_int h1 k1
    simp [Value.cells, ptC] at hb hp
    exact ⟨⟨p, b⟩, by rw [hp.1, hp.2, hb]; rfl, ⟨⟨S_of_wf wx, S_of_wf wy⟩, U_of_wf wb⟩⟩
theorem rx_cells {e er ep eq : TypeId} {f0 f1 f2 f3 : Field} {n : Nat} {cs : List Value} {y : DataW H × List MemPlace} (hu : P.underlying e = some (.struct #[f0, f1, f2, f3])) (h1 : P.underlying f1.type = some (.slice er)) (h2 : P.underlying f2.type = some (.slice ep)) (h3 : P.underlying f3.type = some (.slice eq))
    (o : f0.offset = 0 ∧ f1.offset = 4 ∧ f2.offset = 5 ∧ f3.offset = 6) (c : P.cellsOf f0.type = 4 ∧ P.cellsOf f1.type = 1 ∧ P.cellsOf f2.type = 1 ∧ P.cellsOf f3.type = 1) (ct : P.cellsOf e = 7) (cr : P.cellsOf er = 3 ∧ P.cellsOf ep = 2 ∧ P.cellsOf eq = 3)
    (hH : ∀ n cs y, DataW.trod enc P W base (fun _ => true) held n f0.type cs = some y → ∃ x : Hx, cs = hdC x ∧ HxOk W x)
    (hR : ∀ n cs y, DataW.trod enc P W base (fun _ => true) held n er cs = some y → ∃ r : Rg, cs = rgC r ∧ RegOk W (fun _ => True) r)
    (hP : ∀ n cs y, DataW.trod enc P W base (fun _ => true) held n ep cs = some y → ∃ p : Pt, cs = ptC p ∧ (Lit.int .i64 p.x).wf = true ∧ (Lit.int .i64 p.y).wf = true)
    (hQ : ∀ n cs y, DataW.trod enc P W base (fun _ => true) held n eq cs = some y → ∃ q : Qr, cs = qrC q ∧ OkQ q)
    (h : DataW.trod enc P W base (fun _ => true) held n e cs = some y) : ∃ x : Rx, cs = rxC x ∧ RxOk W x := by
  obtain ⟨y0, y1, y2, y3, m, hl, k0, k1, k2, k3⟩ := trod_struct4x hu h
  rw [ct] at hl
  rw [o.1, c.1] at k0
  rw [o.2.1, c.2.1] at k1
  rw [o.2.2.1, c.2.2.1] at k2
  rw [o.2.2.2, c.2.2.2] at k3
  match cs, hl with
  | [v0, v1, v2, v3, v4, v5, v6], _ =>
    obtain ⟨x, hx, wx⟩ := hH _ _ _ k0
    obtain ⟨RA, rc, rs, hs1, hrow1, hwf1, hl1, hm1, _⟩ := row_cells (k := 3) rgC (fun x => RegOk W (fun _ => True) x) h1 cr.1 (by decide) hR k1
    obtain ⟨PA, pc, ps, hs2, hrow2, hwf2, hl2, hm2, _⟩ := row_cells (k := 2) ptC (fun x => (Lit.int .i64 x.x).wf = true ∧ (Lit.int .i64 x.y).wf = true) h2 cr.2.1 (by decide) hP k2
    obtain ⟨QA, qc, qs, hs3, hrow3, hwf3, hl3, hm3, _⟩ := row_cells (k := 3) qrC OkQ h3 cr.2.2 (by decide) hQ k3
    simp [hdC] at hx hs1 hs2 hs3
    exact ⟨⟨x, RA, rc, rs, PA, pc, ps, QA, qc, qs⟩, by rw [hx.1, hx.2.1, hx.2.2.1, hx.2.2.2, hs1, hs2, hs3]; rfl,
      ⟨wx, ⟨wx.row, rfl, hrow1, rfl, hwf1, hrow2, rfl, fun q hq => ⟨S_of_wf (hwf2 q hq).1, S_of_wf (hwf2 q hq).2⟩, hrow3, rfl, hwf3, hl2⟩, Nat.le_trans wx.cap wx.max, Nat.le_trans hl1 hm1, Nat.le_trans hl2 hm2, Nat.le_trans hl3 hm3⟩⟩
theorem RxOk.len {x : Rx} (h : RxOk W x) : ReqN x.h.op x.h.vx x.h.pts x.h.l.length x.rs.length x.ps.length x.qs.length x.h.l := by
  have hm := h.max
  unfold maxLen at hm
  exact ⟨by omega, ⟨S_of_wf h.h.op, S_of_wf h.h.vx, S_of_wf h.h.pts⟩, fun r hr => (h.h.regs r hr).wf⟩
end
end Go.Proofs.YthmkllpdkcmccaaGreatDoor
