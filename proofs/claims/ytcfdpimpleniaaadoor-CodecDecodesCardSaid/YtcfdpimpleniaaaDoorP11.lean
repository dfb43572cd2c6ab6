/-
  Packed texts: CodC4, Ref18w.
-/
import Derived.WalkSpells
import Derived.Test.YtcfdpimpleniaaaDoorP10
namespace Go.Proofs.YtcfdpimpleniaaaDoor
open Go.RowKit
set_option maxRecDepth 100000
set_option linter.unusedVariables false
set_option linter.unusedSimpArgs false

theorem listAt_dropD {α : Type} {f : List Int → Nat → α} (hf : ∀ (l : List Int) (a k : Nat), f (l.drop k) a = f l (k + a)) (l : List Int) (k n s : Nat) : listAt (f (l.drop k)) 0 n s = listAt (f l) k n s := by
  unfold listAt
  refine List.map_congr_left fun i _ => ?_
  rw [hf, Nat.zero_add]
theorem set_same {α : Type} {l : List α} {i : Nat} {x : α} (h : l[i]? = some x) : l.set i x = l := by
  apply List.ext_getElem?
  intro j
  rw [List.getElem?_set]
  split
  · rename_i e
    subst e
    split
    · exact h.symm
    · rename_i hl
      rw [List.getElem?_eq_none (by omega)]
  · rfl
theorem own_base0 {w : World} {base base' : Nat} {e : TypeId} {size : Nat} {v : Value} {n : Nat} {xs : List Value} (h : w.ownsRow base e size v n xs) (hb : base' ≤ base) : w.ownsRow base' e size v n xs := by
  obtain ⟨h1, h2⟩ := h
  refine ⟨h1, ?_⟩
  rcases h2 with h2 | ⟨g, cap, cur, e1, e2, e3⟩
  · exact .inl h2
  · exact .inr ⟨g, cap, cur, e1, Nat.le_trans hb e2, e3⟩
theorem own_at0 {w : World} {base : Nat} {e : TypeId} {size : Nat} {v : Value} {n : Nat} {xs : List Value} (h : w.ownsRow base e size v n xs) (hn : 0 < n) : ∃ g c, v = .slice (some ⟨g, 0, none⟩) n c := by
  obtain ⟨_, h2⟩ := h
  rcases h2 with ⟨_, h2⟩ | ⟨g, cap, cur, e1, _⟩
  · omega
  · exact ⟨g, cap, e1⟩
theorem box_row {w : World} {b : Nat} {x0 x1 x2 x3 x4 x5 x6 : Value} {t : TypeId} {base : Nat} {e : TypeId} {size : Nat} {v : Value} {n : Nat} {xs : List Value} (hb : Box7 w b x0 x1 x2 x3 x4 x5 x6 t) (h : w.ownsRow base e size v n xs) (hte : t ≠ e) : ∀ g, v.ownBlock = some g → g ≠ b := by
  intro g hg e2
  subst e2
  obtain ⟨_, h2⟩ := h
  rcases h2 with ⟨rfl, _⟩ | ⟨g', cap, cur, rfl, _, h3, _⟩
  · cases hg
  · injection hg with hg
    have hg : g' = g := hg
    subst hg
    unfold Box7 at hb
    rw [hb] at h3
    injection h3 with h3
    injection h3 with _ h3 _
    exact hte h3
theorem own_len {w : World} {base : Nat} {e : TypeId} {size : Nat} {v : Value} {l : List Rg} (h : w.ownsRow base e size v l.length (l.flatMap rgC)) : w.ownsRow base e size v l.length (l.flatMap rgC) := h
/-- A region of a row of one's own is given its points: one cell is stored. -/
theorem own_pts {t : TypeId} {w : World} {base g c n : Nat} {l : List Rg} (h : w.ownsRow base t 3 (.slice (some ⟨g, 0, none⟩) n c) n (l.flatMap rgC)) {k : Nat} (hk : k < l.length) (r : Rg) (hd : r.d = l[k].d) (hv : r.v = l[k].v) :
    (w.setCell ⟨g, k * 3 + 2, none⟩ (.slice r.A r.l.length r.c)).ownsRow base t 3 (.slice (some ⟨g, 0, none⟩) n c) n ((l.set k r).flatMap rgC) := by
  have h1 := flatC_at (C := rgC) (k := 3) (fun _ => rfl) l k _ (List.getElem?_eq_getElem hk)
  rw [flat_set3 (C := rgC) (f := fun x : Rg => Value.bool x.d) (g := fun x => .int .i64 x.v) (h := fun x => .slice x.A x.l.length x.c) (fun _ => rfl) r l k]
  rw [set_same (l := l.flatMap rgC) (i := k * 3) (x := .bool r.d) (by rw [hd]; exact h1 0 (by decide)), set_same (l := l.flatMap rgC) (i := k * 3 + 1) (x := .int .i64 r.v) (by rw [hv]; exact h1 1 (by decide))]
  exact (World.ownsRow.stored h _ _).1
/-- What the loop over the regions keeps. -/
structure DcI (W : World) (gc : Nat) (V : Value) (T : Nat → Prop) (bs : List Int) (ks : List (Bool × Int)) (m0 k : Nat) (rows : List Rg) (wr : World) : Prop where
  len : rows.length = ks.length
  row : wr.ownsRow 0 63 3 V rows.length (rows.flatMap rgC)
  kinds : rows.map rgK = ks
  said : (rows.take k).map rgD = regsAt bs (ks.take k) m0
  oks : RegsOk wr (fun g => W.heap.size ≤ g) (rows.take k)
  cur : CurR wr T gc (bs.drop (m0 + 16 * (ptsK (ks.take k)).toNat))
  moved : Moved (fun g => g = gc ∨ V.ownBlock = some g) W wr
theorem DcI.step {W : World} {gc : Nat} {V : Value} {T : Nat → Prop} {bs : List Int} {ks : List (Bool × Int)} {m0 k : Nat} {rows : List Rg} {wr wf : World} {r : Rg}
    (h : DcI W gc V T bs ks m0 k rows wr) (hk : k < rows.length) (hV : ∀ g, V.ownBlock = some g → g < W.heap.size) (hgc : gc < W.heap.size) (hmv : Moved (fun g => g = gc ∨ V.ownBlock = some g) wr wf)
    (hrow : wf.ownsRow 0 63 3 V rows.length ((rows.set k r).flatMap rgC)) (hd : rgK r = rgK rows[k]) (hs : regsAt bs (ks.take (k + 1)) m0 = regsAt bs (ks.take k) m0 ++ [rgD r])
    (hr : RegOk wf (fun g => W.heap.size ≤ g) r) (hc : CurR wf T gc (bs.drop (m0 + 16 * (ptsK (ks.take (k + 1))).toNat))) : DcI W gc V T bs ks m0 (k + 1) (rows.set k r) wf := by
  have ht : (rows.set k r).take (k + 1) = rows.take k ++ [r] := by
    rw [List.take_succ_eq_append_getElem (by rw [List.length_set]; exact hk), List.getElem_set_self, List.take_set_of_le (Nat.le_refl _)]
  refine ⟨by rw [List.length_set]; exact h.len, by rw [List.length_set]; exact hrow, ?_, by rw [ht, List.map_append, h.said, hs]; rfl, ?_, hc, h.moved.trans hmv⟩
  · rw [List.map_set, set_same (by rw [List.getElem?_map, List.getElem?_eq_getElem hk]; exact congrArg some hd.symm)]
    exact h.kinds
  · rw [ht]
    intro x hx
    rcases List.mem_append.1 hx with hx | hx
    · obtain ⟨h1, h2, h3, h4⟩ := h.oks x hx
      exact ⟨h1.keep fun g hg hlt => hmv.block g hlt (fun e => by have hg : W.heap.size ≤ g := hg; rcases e with e | e; omega; have := hV g e; omega), h2, h3, h4⟩
    · rw [List.mem_singleton.1 hx]; exact hr
def DcRel (W : World) (gc : Nat) (V : Value) (T : Nat → Prop) (bs : List Int) (ks : List (Bool × Int)) (m0 : Nat) (t i : Value) (wr : World) : Prop :=
  ∃ (k : Nat) (rows : List Rg), i = .int .i64 k ∧ k ≤ ks.length ∧ DcI W gc V T bs ks m0 k rows wr
set_option maxHeartbeats 4000000 in
theorem codDecode_c (A : Option Addr) (n c : Nat) (bs : List Int) (T : Nat → Prop) (er : Int) (D : Rqd) (w : World) (hw : Wts w) (hb : SlR w T .u8 A bs) (hn : n = bs.length) (hU : UB bs) (hl : n ≤ 9223372036854775807) (hc : n ≤ c) (he : classH bs = er) (hD : (if er = 0 then decR bs else ⟨⟨0, 0, [], 0⟩, [], [], []⟩) = D) :
    Calls Tryd.prog 14 #[.slice A n c] w (GivesRq w D er) := by
  obtain ⟨W, hW⟩ : ∃ W, W = w.alloc (.cells #[.int .i64 0, .int .i64 0, .slice none 0 0, .int .i64 0, .slice none 0 0, .slice none 0 0, .slice none 0 0] 35) := ⟨_, rfl⟩
  obtain ⟨b, hb0⟩ : ∃ b, b = w.heap.size := ⟨_, rfl⟩
  have h0 : Below w.heap.size w W := by rw [hW]; exact (Below.refl _ _).alloc (Nat.le_refl _) _
  have hbx : Box7 W b (.int .i64 0) (.int .i64 0) (.slice none 0 0) (.int .i64 0) (.slice none 0 0) (.slice none 0 0) (.slice none 0 0) 35 := by rw [hW, hb0]; exact Box7.new
  have HSL := Lib.hid (hb.lt.next h0)
  have HN := Lib.hid hn
  have HWT := Lib.hid (hw.below h0)
  have HW := Lib.hid hW
  have HB := Lib.hid hb0
  have HE := Lib.hid he
  have HD := Lib.hid hD
  have hbw : w.heap.size ≤ b := by omega
  clear hb hn hW hb0 he hD hw
  go_enter Tryd.func14, Tryd.ntmps14
  go_upto_region 1 with (fail)
  rw [← HW.out, ← HB.out]
  go_wp2_with (fail)
  refine (hdrClassify_c A n c bs _ er W HWT.out HSL.out HN.out hU hl hc HE.out).mono ?_
  rintro e w1 ⟨rfl, hb1⟩
  have hbx1 := hbx.same (hb1.block b hbx.lt)
  have hw1 := h0.trans (hb1.mono h0.size)
  have hbw1 : b < w1.heap.size := hbx1.lt
  obtain ⟨⟨y0, y1, y2, y3, y4, y5, y6⟩, f0, f1, f2, f3, f4, f5, f6⟩ := hbx1.at_
  have HBX := Lib.hid hbx1
  clear hbx hbx1
  by_cases hf : er = 0
  · subst hf
    have HD2 := Lib.hid (show decR bs = D by have := HD.out; rwa [if_pos rfl] at this)
    obtain ⟨P, hP⟩ : ∃ P, parseH bs = P := ⟨_, rfl⟩
    have hcl := HE.out
    unfold classH at hcl
    have hok := parse_ok (b := bs) hU
    rw [hP] at hcl hok
    by_cases hpe : P.e = 0
    · rw [if_pos hpe] at hcl
      have hbk := hok hpe
      obtain ⟨⟨op, vx, ks, pts⟩, m0, pe⟩ := P
      simp only at hpe hcl
      subst hpe
      have hlen : (bs.length : Int) = m0 + payL ⟨op, vx, ks, pts⟩ := by
        by_cases h : (bs.length : Int) = m0 + payL ⟨op, vx, ks, pts⟩
        · exact h
        · rw [if_neg h] at hcl; exact absurd hcl (by decide)
      have hk := hbk.ok
      simp only at hk
      rw [payL_eq hk] at hlen
      simp only at hlen
      have hcn := cnt_nn hk
      obtain ⟨p, hp⟩ : ∃ p, cntP ⟨op, vx, ks, pts⟩ = p := ⟨_, rfl⟩
      have hq : cntQ ⟨op, vx, ks, pts⟩ = pts := cntQ_ok hk
      have hpq : 1 ≤ p ∨ 1 ≤ pts := by
        have h1 := hk.op
        have h2 := hk.pts5
        have h3 := hk.vs3
        simp only at h1 h2 h3
        rw [← hp]
        unfold cntP
        simp only
        by_cases e5 : op = 5
        · have := h2 e5; omega
        · left
          split
          · omega
          · split
            · omega
            · split
              · rename_i e; have := h3 e; omega
              · rw [if_pos (by omega)]; omega
      rw [hp, hq] at hlen hcn
      have hk0 := ptsK_nn ks
      have hk64 : ks.length ≤ 64 := by
        have h1 := hk.len
        have h2 := hk.len0
        simp only at h1 h2
        by_cases h : 4 ≤ op
        · exact (h1 h).2
        · rw [h2 (by omega)]; simp
      have HK := Lib.hid hk
      have HPQ := Lib.hid (And.intro hp hq)
      have HP := Lib.hid hP
      have hlen2 : (n : Int) = m0 + (16 * ptsK ks + 16 * p + 24 * pts) := by rw [HN.out]; exact hlen
      have hmn : m0 < n := by omega
      have HLEN := Lib.hid (And.intro hlen2 (And.intro hcn hk0))
      clear hbk hok hcl hk hp hq hP hlen hlen2 hpq hk0
      go_wp2_with (fail)
      refine (hdrParse_c A n c bs _ _ w1 (HWT.out.below hb1) (HSL.out.next hb1) HN.out hU hl hc HP.out).mono ?_
      rintro e w2 ⟨hA, hn2, hc2, hrs, rfl, hhn, hrow, hks, hrp, hb2⟩
      simp only at hks
      obtain ⟨pb, po, rfl, hTb, cw0⟩ := sl_lit HSL.out (show 0 < bs.length by have := HN.out; omega)
      clear cw0
      have hsl1 := (HSL.out.sub_ m0 (bs.length - m0) (by have := HN.out; omega))
      rw [drop_take_all rfl] at hsl1
      have hcm : ¬ c = m0 := by omega
      have hmi : (0 : Int) ≤ m0 ∧ (m0 : Int) ≤ n := by omega
      obtain ⟨W5, hW5⟩ : ∃ W5, W5 = (w2.alloc (.cells #[.int .i64 op, .int .i64 vx, .slice hA hn2 hc2, .int .i64 pts] 24)).alloc (.cells #[.slice (some ⟨pb, po + m0, none⟩) (n - m0) (c - m0)] 83) := ⟨_, rfl⟩
      obtain ⟨b5, hb5⟩ : ∃ b5, b5 = w2.heap.size := ⟨_, rfl⟩
      have h25 : Below w2.heap.size w2 W5 := by rw [hW5]; exact ((Below.refl _ _).alloc (Nat.le_refl _) _).alloc (by simp) _
      have hs5 : W5.heap.size = b5 + 2 := by rw [hW5, hb5]; simp
      have g0 : W5.cell? ⟨b5, 0, none⟩ = some (.int .i64 op) := by rw [hW5, hb5]; simp [go_sem]
      have g1 : W5.cell? ⟨b5, 1, none⟩ = some (.int .i64 vx) := by rw [hW5, hb5]; simp [go_sem]
      have g2 : W5.cell? ⟨b5, 2, none⟩ = some (.slice hA hn2 hc2) := by rw [hW5, hb5]; simp [go_sem]
      have g3 : W5.cell? ⟨b5, 3, none⟩ = some (.int .i64 pts) := by rw [hW5, hb5]; simp [go_sem]
      have hb15 : Below w1.heap.size w1 W5 := hb2.trans (h25.mono hb2.size)
      have hbW5 : Below W.heap.size W W5 := hb1.trans (hb15.mono hb1.size)
      have hw5 : Below w.heap.size w W5 := h0.trans (hbW5.mono h0.size)
      have hbx5 := HBX.out.same (hb15.block b (HBX.out.lt))
      have hb5s : w1.heap.size ≤ b5 := by rw [hb5]; exact hb2.size
      have hTw : ∀ g, (T g ∧ g < w.heap.size) → g < w.heap.size := fun g h => h.2
      have hcur : CurR W5 (fun g => T g ∧ g < w.heap.size) (b5 + 1) (bs.drop m0) := by
        refine ⟨some ⟨pb, po + m0, none⟩, n - m0, c - m0, ?_, ?_, (hsl1.next hb1).next hb15, by rw [List.length_drop, HN.out], by omega⟩
        · rw [hW5, hb5]; simp [go_sem]
        · rw [hW5, hb5]; simp [go_sem]
      have HRW := Lib.hid (((hrow.now (fun _ => by simp [rgC])).imp (fun g hg => (show w1.heap.size ≤ g ∧ g < b5 from ⟨hg.1, by rw [hb5]; exact hg.2⟩))).next h25)
      have HORD := Lib.hid (show w.heap.size ≤ b ∧ b < w1.heap.size ∧ w1.heap.size ≤ b5 ∧ W5.heap.size = b5 + 2 from ⟨hbw, hbw1, hb5s, hs5⟩)
      have HW5 := Lib.hid hW5
      have HB5 := Lib.hid hb5
      have HHN := Lib.hid hhn
      have HKS := Lib.hid hks
      have HRP := Lib.hid hrp
      have HB0 := Lib.hid hbx5
      have HHL := Lib.hid (show hn2 = ks.length by rw [hhn, ← hks, List.length_map])
      have HCUR := Lib.hid hcur
      obtain ⟨rn0, hrn0⟩ : ∃ rn0, rn0 = hrs.length := ⟨_, rfl⟩
      have HRN0 := Lib.hid hrn0
      clear hrn0
      have HWB := Lib.hid hw5
      have HWT5 := Lib.hid ((HWT.out.below hb1).below hb15)
      clear hW5 hb5 hrow hhn hks hrp hbx5 y0 y1 y2 y3 y4 y5 y6 f0 f1 f2 f3 f4 f5 f6 HBX h25 hsl1 hcur hs5
      go_upto_region 6 with (fail)
      rw [← HW5.out, ← HB5.out]
      refine dir_plain (by kernel_rfl) 6 [[], [], [(29, 1)], [(30, 2)], [(28, 0), (31, 3)], [], [(32, 4), (9, 5)]] [(28, 0), (29, 1), (30, 2), (31, 3), (32, 4), (9, 5)] [
          (fun z_ _ => z_ = .agg #[.int .i64 op, .int .i64 vx, .slice hA hn2 hc2, .int .i64 pts]),
          (fun z_ _ => z_ = .pointer (some ⟨b5, 2, none⟩)),
          (fun z_ _ => z_ = .slice hA hn2 hc2),
          (fun z_ w_ => ∃ RA rc, z_ = .slice RA rn0 rc ∧ w_.ownsRow W5.heap.size 63 3 (.slice RA rn0 rc) rn0 (hrs.flatMap rgC)),
          (fun z_ w_ => ∃ RA rc, z_ = .agg #[.int .i64 op, .int .i64 vx, .slice hA hn2 hc2, .int .i64 pts, .slice RA rn0 rc, .slice none 0 0, .slice none 0 0] ∧ w_.ownsRow W5.heap.size 63 3 (.slice RA rn0 rc) rn0 (hrs.flatMap rgC)),
          (fun z_ w_ => ∃ B, z_ = .pointer (some ⟨B, 0, none⟩) ∧ Box7 w_ B (.int .i64 0) (.int .i64 0) (.slice none 0 0) (.int .i64 0) (.slice none 0 0) (.slice none 0 0) (.slice none 0 0) 35 ∧ W5.heap.size ≤ B)
        ] (by kernel_rfl) (by kernel_rfl) (by kernel_rfl) (by decide) ⟨dstab_eq, dstab_eq, dstab_eq, (fun v_ w1_ w2_ h_ hb_ => let ⟨A_, c_, e_, h2_⟩ := h_; ⟨A_, c_, e_, row_keep h2_ fun b_ hb2_ => hb_.block b_ (World.ownsRow.lt h2_ b_ hb2_).2⟩), (fun v_ w1_ w2_ h_ hb_ => let ⟨A_, c_, e_, h2_⟩ := h_; ⟨A_, c_, e_, row_keep h2_ fun b_ hb2_ => hb_.block b_ (World.ownsRow.lt h2_ b_ hb2_).2⟩), (fun v_ w1_ w2_ h_ hb_ => let ⟨B_, e_, h2_, h3_⟩ := h_; ⟨B_, e_, h2_.same (hb_.block B_ h2_.lt), h3_⟩), trivial⟩ ?steps ?fin
      case steps =>
        refine ⟨?_, ?_, ?_, ?_, ?_, ?_, trivial⟩
        · intro vs g w2 hI hF hR K hK
          simp only [Facts, fill, Act.put, z1, z2, z3, z4, z5, Nat.reduceAdd] at hF hR hK ⊢
          have k0 := (hI.cell (lt_of_cell g0)).trans g0
          have k1 := (hI.cell (lt_of_cell g1)).trans g1
          have k2 := (hI.cell (lt_of_cell g2)).trans g2
          have k3 := (hI.cell (lt_of_cell g3)).trans g3
          go_simp
          exact hK _ () _ hI (Below.refl _ _) rfl
        · intro vs g w2 hI hF hR K hK
          simp only [Facts, fill, Act.put, z1, z2, z3, z4, z5, Nat.reduceAdd] at hF hR hK ⊢
          go_simp
          exact hK _ () _ hI (Below.refl _ _) rfl
        · intro vs g w2 hI hF hR K hK
          simp only [Facts, fill, Act.put, z1, z2, z3, z4, z5, Nat.reduceAdd] at hF hR hK ⊢
          obtain ⟨r1, -⟩ := hR
          generalize vs 1 = x1 at *
          subst r1
          have k0 := (hI.cell (lt_of_cell g2)).trans g2
          go_simp
          exact hK _ () _ hI (Below.refl _ _) rfl
        · intro vs g w2 hI hF hR K hK
          simp only [Facts, fill, Act.put, z1, z2, z3, z4, z5, Nat.reduceAdd] at hF hR hK ⊢
          obtain ⟨r2, -⟩ := hR
          generalize vs 2 = x2 at *
          subst r2
          go_simp
          refine (cloneRgK_any hA hc2 hn2 hrs _ w2 (HRW.out.next hI) HHN.out (by have := HHL.out; omega)).mono ?_
          rintro e w3 ⟨v3, rfl, hrow3, hb3⟩
          obtain ⟨A3, c3, rfl, _⟩ := own_rowR rgC_len hrow3
          rw [← HRN0.out] at hrow3 ⊢
          exact hK _ () _ (hI.trans (hb3.mono hI.size)) hb3 ⟨A3, c3, rfl, own_base0 hrow3 hI.size⟩
        · intro vs g w2 hI hF hR K hK
          simp only [Facts, fill, Act.put, z1, z2, z3, z4, z5, Nat.reduceAdd] at hF hR hK ⊢
          obtain ⟨r0, r3, -⟩ := hR
          generalize vs 0 = x0, vs 3 = x3 at *
          subst r0
          obtain ⟨RA, rc, e3, h3⟩ := r3
          subst e3
          go_simp
          exact hK _ () _ hI (Below.refl _ _) ⟨RA, rc, rfl, h3⟩
        · intro vs g w2 hI hF hR K hK
          simp only [Facts, fill, Act.put, z1, z2, z3, z4, z5, Nat.reduceAdd] at hF hR hK ⊢
          go_simp
          have hba : Below w2.heap.size w2 (w2.alloc (.cells #[.int .i64 0, .int .i64 0, .slice none 0 0, .int .i64 0, .slice none 0 0, .slice none 0 0, .slice none 0 0] 35)) := (Below.refl _ _).alloc (Nat.le_refl _) _
          exact hK _ () _ (hI.trans (hba.mono hI.size)) hba ⟨_, rfl, Box7.new, hI.size⟩
      case fin =>
        intro vs w2 hI hR
        have r4 := hR 4 (by decide)
        have r5 := hR 5 (by decide)
        simp only [fill, Act.put, z1, z2, z3, z4, z5] at r4 r5 ⊢
        clear hR
        generalize vs 4 = x4 at *
        generalize vs 5 = x5 at *
        obtain ⟨RA, rc, rfl, hVrow⟩ := r4
        obtain ⟨B9, rfl, hB9, hB9l⟩ := r5
        obtain ⟨⟨y0, y1, y2, y3, y4, y5, y6⟩, f0, f1, f2, f3, f4, f5, f6⟩ := hB9.at_
        refine wpOps_step rfl rfl ?_
        go_simp
        refine NoPanic.normal ?_
        obtain ⟨V, hV⟩ : ∃ V, V = Value.slice RA rn0 rc := ⟨_, rfl⟩
        rw [← hV] at hVrow ⊢
        clear hV y0 y1 y2 y3 y4 y5 y6 f0 f1 f2 f3 f4 f5 f6
        generalize hWf : ((((((w2.setCell ⟨B9, 0, none⟩ (.int .i64 op)).setCell ⟨B9, 1, none⟩ (.int .i64 vx)).setCell ⟨B9, 2, none⟩ (.slice hA hn2 hc2)).setCell ⟨B9, 3, none⟩ (.int .i64 pts)).setCell ⟨B9, 4, none⟩ V).setCell ⟨B9, 5, none⟩ (.slice none 0 0)).setCell ⟨B9, 6, none⟩ (.slice none 0 0) = W7
        obtain ⟨hb7, hoth7, hbx7⟩ := fin7 hB9 hI hB9l hWf
        have hVne := box_row hB9 hVrow (by decide)
        have hV5 : ∀ g, V.ownBlock = some g → W5.heap.size ≤ g := fun g hg => (World.ownsRow.lt hVrow g hg).1
        have hrow7 := row_keep (w' := W7) hVrow fun g hg => hoth7 g (hVne g hg)
        have hV7 : ∀ g, V.ownBlock = some g → g < W7.heap.size := fun g hg => (World.ownsRow.lt hrow7 g hg).2
        have g0 := (hb7.cell (lt_of_cell g0)).trans g0
        have g1 := (hb7.cell (lt_of_cell g1)).trans g1
        have g2 := (hb7.cell (lt_of_cell g2)).trans g2
        have g3 := (hb7.cell (lt_of_cell g3)).trans g3
        have hc7 := HCUR.out.next hb7
        have HB7 := Lib.hid hb7
        have HBX7 := Lib.hid hbx7
        have HVV := Lib.hid (And.intro hV5 (And.intro hV7 hVne))
        have hB97 : B9 < W7.heap.size := hbx7.lt
        have HRW7 := Lib.hid (HRW.out.next hb7)
        have HO7 := Lib.hid (show W5.heap.size ≤ B9 ∧ B9 < W7.heap.size ∧ W5.heap.size ≤ W7.heap.size from ⟨hB9l, hB97, hb7.size⟩)
        obtain ⟨k0, k1, k2, k3, k4, k5, k6⟩ := hbx7.at_.1
        clear hWf hoth7 hB9 hVrow hI hbx7
        have hd0 : DcI W7 (b5 + 1) V (fun g => T g ∧ g < w.heap.size) bs ks m0 0 hrs W7 :=
          ⟨by rw [← HHN.out, HHL.out], by rw [← HRN0.out]; exact own_base0 hrow7 (Nat.zero_le _), HKS.out, rfl, (fun _ h => by cases h), (by simpa [ptsK] using hc7), Moved.refl _ _⟩
        have HD0 := Lib.hid hd0
        clear hd0 hrow7 hc7 k0 k1 k2 k3 k5 k6 k4
        go_wp2
        go_loopw [10, 36] (fun t i wr => DcRel W7 (b5 + 1) V (fun g => T g ∧ g < w.heap.size) bs ks m0 t i wr) (fun _ i _ => hn2 - (intOf i).toNat)
        case atStart => exact ⟨0, hrs, rfl, Nat.zero_le _, HD0.out⟩
        case round =>
          obtain ⟨k, rows, rfl, hkk, hi⟩ := hrel
          have HI := Lib.hid hi
          have hws := hi.moved.size
          have HOFF := Lib.hid (show ∀ g, g < W7.heap.size → g ≠ b5 + 1 → (¬ V.ownBlock = some g) → wr.heap[g]? = W7.heap[g]? from fun g h1 h2 h3 => hi.moved.block g h1 (fun e => e.elim h2 h3))
          have hbx9 := HBX7.out.same (HOFF.out B9 hB97 (by have := HO7.out; have := HORD.out; omega) (fun e => HVV.out.2.2 _ e rfl))
          have HBX9 := Lib.hid hbx9
          by_cases hgo : k < hn2
          · have hk1 : k < hrs.length := by rw [← HHN.out]; exact hgo
            have hk2 : k < ks.length := by rw [← HHL.out]; exact hgo
            have hkr : k < rows.length := by rw [hi.len]; exact hk2
            obtain ⟨x, hx⟩ : ∃ x, hrs[k] = x := ⟨_, rfl⟩
            have hkx : ks[k] = rgK x := by simp only [← HKS.out, List.getElem_map, hx]
            have hkr2 : rgK rows[k] = rgK x := by rw [← hkx]; simp only [← hi.kinds, List.getElem_map]
            obtain ⟨bh, oh, rfl, hTb2, e0, e1, e2⟩ := (HRW7.out.keep (w' := wr) fun g hg hlt => HOFF.out g hlt (by have := hg.2; omega) (fun e => by have := HVV.out.1 g e; have := HORD.out; have := hg.2; omega)).rg2 hk1
            rw [hx] at e0 e1 e2
            obtain ⟨gR, rc, hVs⟩ := own_at0 hi.row (by omega)
            obtain ⟨rn, hrn⟩ : ∃ rn, rn = rows.length := ⟨_, rfl⟩
            rw [← hrn] at hVs
            have HRN := Lib.hid hrn
            obtain ⟨sz, hsz⟩ : ∃ sz, sizeF x.v = sz := ⟨_, rfl⟩
            have hszb := sizeF_bd x.v
            rw [hsz] at hszb
            have HRS := Lib.hid (regsAt_snoc bs hk2 m0)
            have HPS := Lib.hid (ptsK_at hk2)
            rw [hkx] at HRS HPS
            have hpt := ptsK_part ks (k + 1)
            have ha0 := ptsK_nn (ks.take k)
            rw [HPS.out] at hpt
            obtain ⟨a, ha⟩ : ∃ a, ptsK (ks.take k) = a := ⟨_, rfl⟩
            have hcur := hi.cur
            have hlen2 := HLEN.out
            have hle : (m0 : Int) + 16 * a + 16 * sz ≤ n := by
              have h2 : ptsK (ks.take k) + sizeF x.v ≤ ptsK ks := hpt
              rw [ha, hsz] at h2
              omega
            rw [ha] at ha0 HRS HPS hcur
            obtain ⟨aN, haN⟩ : ∃ aN : Nat, aN = m0 + 16 * a.toNat := ⟨_, rfl⟩
            rw [← haN] at hcur HRS
            obtain ⟨sN, hsN⟩ : ∃ sN : Nat, sN = sz.toNat := ⟨_, rfl⟩
            have hszN : sz = (sN : Int) := by omega
            have HPS2 := Lib.hid (show m0 + 16 * (ptsK (ks.take (k + 1))).toNat = aN + sN * 16 by rw [HPS.out, haN, hsN]; show m0 + 16 * (a + sizeF x.v).toNat = _; rw [hsz]; omega)
            obtain ⟨L, hL⟩ : ∃ L, listAt (ptAt bs) aN sN 16 = L := ⟨_, rfl⟩
            have HLL := Lib.hid (show L.length = sN by rw [← hL]; exact listAt_len _ _ _ _)
            have HL := Lib.hid (show listAt (ptAt (bs.drop aN)) 0 sN 16 = L by rw [listAt_dropD ptAt_drop]; exact hL)
            have HLS := Lib.hid (show SsP L by rw [← hL]; exact ptsAt_S hU fun i hi => by rw [← HN.out]; omega)
            have HRS2 := Lib.hid (show regsAt bs (ks.take (k + 1)) m0 = regsAt bs (ks.take k) m0 ++ [(rgK x, L)] by
              rw [HRS.out, ← hL, hsN, ← hsz]; rfl)
            have HRST := Lib.hid (show sN * 16 ≤ (bs.drop aN).length ∧ (bs.drop aN).length ≤ 9223372036854775807 by rw [List.length_drop, ← HN.out]; omega)
            obtain ⟨d, hd⟩ : ∃ d, x.d = d := ⟨_, rfl⟩
            obtain ⟨v, hv⟩ : ∃ v, x.v = v := ⟨_, rfl⟩
            obtain ⟨xA, hxA⟩ : ∃ y, x.A = y := ⟨_, rfl⟩
            obtain ⟨xm, hxm⟩ : ∃ y, x.l.length = y := ⟨_, rfl⟩
            obtain ⟨xc, hxc⟩ : ∃ y, x.c = y := ⟨_, rfl⟩
            rw [hd] at e0
            rw [hv] at e1 hsz
            have HSVv := Lib.hid (show S v by rw [← hv]; exact okh_vS HK.out (x := rgK x) (by rw [← hkx]; exact List.getElem_mem hk2))
            rw [hxA, hxm, hxc] at e2
            have HKR := Lib.hid (show rgK x = (d, v) ∧ rows[k].d = d ∧ rows[k].v = v by
              have h1 : rgK x = (d, v) := by rw [← hd, ← hv]; rfl
              rw [h1] at hkr2
              injection hkr2 with h2 h3
              exact ⟨h1, h2, h3⟩)
            have HSZ := Lib.hid hsz
            have HSN := Lib.hid hszN
            have hsN0 : sN ≤ 100000 := by omega
            have hgR : W5.heap.size ≤ gR ∧ gR < W7.heap.size := ⟨HVV.out.1 gR (by rw [hVs]; rfl), HVV.out.2.1 gR (by rw [hVs]; rfl)⟩
            have HGR := Lib.hid (show gR ≠ b5 + 1 ∧ gR < W7.heap.size ∧ V.ownBlock = some gR ∧ w.heap.size ≤ gR from ⟨by have := HORD.out; omega, hgR.2, by rw [hVs]; rfl, by have := HORD.out; omega⟩)
            have hrowk := hi.row
            rw [← hrn, hVs] at hrowk
            have hkrn : k < rn := by rw [hrn]; exact hkr
            have hkri : (k : Int) < rn := by omega
            have HCUR2 := Lib.hid hcur
            have HROWK := Lib.hid hrowk
            obtain ⟨k0, k1, k2, k3, k4, k5, k6⟩ := hbx9.at_.1
            rw [hVs] at k4
            have HVS := Lib.hid hVs
            clear hszN ha haN hsN hL hd hv hxA hxm hxc hsz hkx hkr2 hx HRS hpt hcur hrowk hi hVs hrn hlen2 k0 k1 k2 k3 k5 k6 hbx9
            obtain ⟨W9, hW9⟩ : ∃ W9, W9 = wr.alloc (.cells #[.bool d, .int .i64 v, .slice xA xm xc] 63) := ⟨_, rfl⟩
            obtain ⟨bl, hbl⟩ : ∃ g, g = wr.heap.size := ⟨_, rfl⟩
            have h9 : Below wr.heap.size wr W9 := by rw [hW9]; exact (Below.refl _ _).alloc (Nat.le_refl _) _
            have i0 : W9.cell? ⟨bl, 0, none⟩ = some (.bool d) := by rw [hW9, hbl]; simp [go_sem]
            have i1 : W9.cell? ⟨bl, 1, none⟩ = some (.int .i64 v) := by rw [hW9, hbl]; simp [go_sem]
            have i2 : W9.cell? ⟨bl, 2, none⟩ = some (.slice xA xm xc) := by rw [hW9, hbl]; simp [go_sem]
            have HW9 := Lib.hid hW9
            have HBL := Lib.hid hbl
            have hntl : ¬ bl = b5 + 1 := by have := HO7.out; have := HORD.out; omega
            have hnt9 : ¬ B9 = b5 + 1 := by have := HO7.out; have := HORD.out; omega
            have k4 := (h9.cell (lt_of_cell k4)).trans k4
            have hs9 : wr.heap.size ≤ W9.heap.size := h9.size
            have HH9 := Lib.hid h9
            clear hW9 hbl h9
            go_upto_region 10 with (fail)
            rw [← HW9.out, ← HBL.out]
            clear e0 e1 e2
            refine dirP_plain (by kernel_rfl) (fun b => b = b5 + 1) 6 [] 9 [[], [(41, 0)], [], [], [(44, 3)], [], [(45, 4), (46, 5)], [(42, 1), (43, 2)], [(48, 7)], [(47, 6), (49, 8)]] [(41, 0), (42, 1), (43, 2), (44, 3), (45, 4), (46, 5), (47, 6), (48, 7), (49, 8)] [
                (fun z_ => z_ = .pointer (some ⟨B9, 4, none⟩)),
                (fun z_ => z_ = .slice (some ⟨gR, 0, none⟩) rn rc),
                (fun z_ => z_ = .int .i64 k),
                (fun z_ => z_ = .agg #[.bool d, .int .i64 v, .slice xA xm xc]),
                (fun z_ => z_ = .int .i64 sz),
                (fun z_ => z_ = .func (.func 41) #[.pointer (some ⟨b5 + 1, 0, none⟩)] #[]),
                (fun _ => True),
                (fun z_ => z_ = .pointer (some ⟨gR, k * 3, none⟩)),
                (fun z_ => z_ = .pointer (some ⟨gR, k * 3 + 2, none⟩))
              ] [(fun _ _ => True), (fun _ _ => True), (fun _ _ => True), (fun _ _ => True), (fun _ _ => True), (fun _ _ => True), (fun _ _ => True), (fun _ _ => True), (fun _ _ => True)] (fun v' w' => ∃ bp, v' = .slice (some ⟨bp, 0, none⟩) sN sN ∧ w'.ownsRow W9.heap.size 65 2 (.slice (some ⟨bp, 0, none⟩) sN sN) sN ((listAt (ptAt (bs.drop aN)) 0 sN 16).flatMap ptC) ∧ CurR w' (fun g => T g ∧ g < w.heap.size) (b5 + 1) ((bs.drop aN).drop (sN * 16)) ∧ Moved (fun b => b = b5 + 1) W9 w')
              (by kernel_rfl) (by kernel_rfl) (by kernel_rfl) (by decide) ⟨fun _ _ _ h _ => h, fun _ _ _ h _ => h, fun _ _ _ h _ => h, fun _ _ _ h _ => h, fun _ _ _ h _ => h, fun _ _ _ h _ => h, fun _ _ _ h _ => h, fun _ _ _ h _ => h, fun _ _ _ h _ => h, trivial⟩ (fun v_ w1_ w2_ h_ hb_ => let ⟨bp_, e_, h2_, h3_, h4_⟩ := h_; ⟨bp_, e_, row_keep h2_ fun b_ hb2_ => hb_.block b_ (World.ownsRow.lt h2_ b_ hb2_).2, h3_.next hb_, h4_.trans (.of_below hb_)⟩) ?steps (by decide) ?fin
            case steps =>
              refine ⟨?_, ?_, ?_, ?_, ?_, ?_, ?_, ?_, ?_, trivial⟩
              · intro vs g w2 hI hF hR K hK
                simp only [Facts, fill, Act.put, z1, z2, z3, z4, z5, Nat.reduceAdd] at hF hR hK ⊢
                go_simp
                exact hK _ _ _ (hI.step (by decide) (Below.refl _ _)) ⟨rfl, fun _ => Below.refl _ _⟩ ⟨updG_same _ _, rfl, fun _ => trivial, fun e => absurd e (by decide)⟩
              · intro vs g w2 hI hF hR K hK
                simp only [Facts, fill, Act.put, z1, z2, z3, z4, z5, Nat.reduceAdd] at hF hR hK ⊢
                obtain ⟨q0, -⟩ := hR
                have r0 : .pointer (some ⟨B9, 4, none⟩) = vs 0 := Eq.symm q0.val
                generalize vs 0 = x0 at *
                subst r0
                have k0 := (hI.moved.cell (lt_of_cell k4) hnt9).trans k4
                go_simp
                exact hK _ _ _ (hI.step (by decide) (Below.refl _ _)) ⟨rfl, fun _ => Below.refl _ _⟩ ⟨updG_same _ _, rfl, fun _ => trivial, fun e => absurd e (by decide)⟩
              · intro vs g w2 hI hF hR K hK
                simp only [Facts, fill, Act.put, z1, z2, z3, z4, z5, Nat.reduceAdd] at hF hR hK ⊢
                go_simp
                exact hK _ _ _ (hI.step (by decide) (Below.refl _ _)) ⟨rfl, fun _ => Below.refl _ _⟩ ⟨updG_same _ _, rfl, fun _ => trivial, fun e => absurd e (by decide)⟩
              · intro vs g w2 hI hF hR K hK
                simp only [Facts, fill, Act.put, z1, z2, z3, z4, z5, Nat.reduceAdd] at hF hR hK ⊢
                have k0 := (hI.moved.cell (lt_of_cell i0) hntl).trans i0
                have k1 := (hI.moved.cell (lt_of_cell i1) hntl).trans i1
                have k2 := (hI.moved.cell (lt_of_cell i2) hntl).trans i2
                go_simp
                exact hK _ _ _ (hI.step (by decide) (Below.refl _ _)) ⟨rfl, fun _ => Below.refl _ _⟩ ⟨updG_same _ _, rfl, fun _ => trivial, fun e => absurd e (by decide)⟩
              · intro vs g w2 hI hF hR K hK
                simp only [Facts, fill, Act.put, z1, z2, z3, z4, z5, Nat.reduceAdd] at hF hR hK ⊢
                obtain ⟨q3, -⟩ := hR
                have r3 : .agg #[.bool d, .int .i64 v, .slice xA xm xc] = vs 3 := Eq.symm q3.val
                generalize vs 3 = x3 at *
                subst r3
                go_simp
                refine (fenceSize_c d v (.slice xA xm xc) sz _ HSVv.out HSZ.out).mono ?_
                rintro e w3 ⟨rfl, hb⟩
                exact hK _ _ _ (hI.step (by decide) hb) ⟨rfl, fun _ => hb⟩ ⟨updG_same _ _, rfl, fun _ => trivial, fun e => absurd e (by decide)⟩
              · intro vs g w2 hI hF hR K hK
                simp only [Facts, fill, Act.put, z1, z2, z3, z4, z5, Nat.reduceAdd] at hF hR hK ⊢
                go_simp
                exact hK _ _ _ (hI.step (by decide) (Below.refl _ _)) ⟨rfl, fun _ => Below.refl _ _⟩ ⟨updG_same _ _, rfl, fun _ => trivial, fun e => absurd e (by decide)⟩
              · intro vs g w2 hI hF hR K hK
                simp only [Facts, fill, Act.put, z1, z2, z3, z4, z5, Nat.reduceAdd] at hF hR hK ⊢
                obtain ⟨q4, q5, -⟩ := hR
                have r4 : .int .i64 sz = vs 4 := Eq.symm q4.val
                have r5 : .func (.func 41) #[.pointer (some ⟨b5 + 1, 0, none⟩)] #[] = vs 5 := Eq.symm q5.val
                generalize vs 4 = x4, vs 5 = x5 at *
                subst r4 r5
                have hB := hI.below hF
                go_simp
                refine (takePoints_any (fun g => T g ∧ g < w.heap.size) (b5 + 1) (bs.drop aN) sN sz w2 ((HCUR2.out.next HH9.out).next hB) (fun h => by have := h.2; have := HORD.out; omega) (fun g h => by have := h.2; have := HORD.out; have := HO7.out; have := hB.size; omega) (hU.drop _) HRST.out.2 HSN.out hsN0 HRST.out.1).mono ?_
                rintro e w3 ⟨bp, rfl, hrow3, hcur3, hm3⟩
                exact hK _ _ _ (hI.end_ (fun i hi => by cases hi) ((Moved.of_below hB).trans hm3)) ⟨rfl, fun e => absurd rfl e⟩ ⟨updG_same _ _, trivial, fun e => (by rw [updG_same] at e; cases e), fun _ => ⟨bp, rfl, own_base0 hrow3 hB.size, hcur3, (Moved.of_below hB).trans hm3⟩⟩
              · intro vs g w2 hI hF hR K hK
                simp only [Facts, fill, Act.put, z1, z2, z3, z4, z5, Nat.reduceAdd] at hF hR hK ⊢
                obtain ⟨q1, q2, -⟩ := hR
                have r1 : .slice (some ⟨gR, 0, none⟩) rn rc = vs 1 := Eq.symm q1.val
                have r2 : .int .i64 k = vs 2 := Eq.symm q2.val
                generalize vs 1 = x1, vs 2 = x2 at *
                subst r1 r2
                go_simp
                exact hK _ _ _ (hI.step (by decide) (Below.refl _ _)) ⟨rfl, fun _ => Below.refl _ _⟩ ⟨updG_same _ _, rfl, fun _ => trivial, fun e => absurd e (by decide)⟩
              · intro vs g w2 hI hF hR K hK
                simp only [Facts, fill, Act.put, z1, z2, z3, z4, z5, Nat.reduceAdd] at hF hR hK ⊢
                obtain ⟨q7, -⟩ := hR
                have r7 : .pointer (some ⟨gR, k * 3, none⟩) = vs 7 := Eq.symm q7.val
                generalize vs 7 = x7 at *
                subst r7
                go_simp
                exact hK _ _ _ (hI.step (by decide) (Below.refl _ _)) ⟨rfl, fun _ => Below.refl _ _⟩ ⟨updG_same _ _, rfl, fun _ => trivial, fun e => absurd e (by decide)⟩
            case fin =>
              intro vs w2 hm hpo hR
              have r8 : .pointer (some ⟨gR, k * 3 + 2, none⟩) = vs 8 := Eq.symm (hR 8 (by decide))
              simp only [fill, Act.put, z1, z2, z3, z4, z5] at ⊢
              clear hR
              generalize vs 8 = x8 at *
              generalize vs 6 = x6 at *
              subst r8
              obtain ⟨bp, hxp, hrowp, hcurp, hmp⟩ := hpo
              subst hxp
              rw [HL.out] at hrowp
              rw [List.drop_drop, ← HPS2.out] at hcurp
              have hbp : W9.heap.size ≤ bp := (World.ownsRow.lt hrowp bp rfl).1
              have hrow2 := row_keep (w' := w2) HROWK.out fun g hg => (hmp.block g (by have := (World.ownsRow.lt HROWK.out g hg).2; omega) (fun e => HGR.out.1 ((show gR = g from Option.some.inj hg).trans e))).trans (HH9.out.block g (World.ownsRow.lt HROWK.out g hg).2)
              obtain ⟨c2, q2, f2⟩ := own_cell rgC_len HRN.out.symm hrow2 hkrn (show 2 < 3 by decide)
              refine wpOps_step rfl rfl ?_
              go_simp
              refine NoPanic.normal ?_
              have hrow4 := own_pts hrow2 (k := k) hkr ⟨d, v, some ⟨bp, 0, none⟩, sN, L⟩ HKR.out.2.1.symm HKR.out.2.2.symm
              simp only at hrow4
              rw [HLL.out] at hrow4
              have hm4 : Moved (fun g => g = gR) w2 (w2.setCell ⟨gR, k * 3 + 2, none⟩ (.slice (some ⟨bp, 0, none⟩) sN sN)) := moved_at
              have hmf : Moved (fun g => g = b5 + 1 ∨ V.ownBlock = some g) wr (w2.setCell ⟨gR, k * 3 + 2, none⟩ (.slice (some ⟨bp, 0, none⟩) sN sN)) := ((Moved.of_below HH9.out).trans (hmp.imp fun g e => .inl e)).trans (hm4.imp fun g e => .inr (by have e : g = gR := e; rw [e]; exact HGR.out.2.2.1))
              have hcf := hcurp.keep hm4 (fun e => HGR.out.1 e.symm) (fun g hg e => by have e : g = gR := e; have := hg.2; have := HGR.out; omega)
              have hpr : RowR (w2.setCell ⟨gR, k * 3 + 2, none⟩ (.slice (some ⟨bp, 0, none⟩) sN sN)) (fun g => W7.heap.size ≤ g) 2 ptC (some ⟨bp, 0, none⟩) L := ((own_rowAt ptC_len HLL.out.symm hrowp).keep fun g hg hlt => hm4.block g hlt (by have hg : g = bp := hg; have := HGR.out; show ¬ g = gR; omega)).imp fun g hg => by have hg : g = bp := hg; omega
              have hst := HI.out.step hkr HVV.out.2.1 (by have := HO7.out; have := HORD.out; omega) hmf (by rw [← HVS.out] at hrow4; rw [← HRN.out]; exact hrow4) (r := ⟨d, v, some ⟨bp, 0, none⟩, sN, L⟩) (by rw [show rgK rows[k] = (rows[k].d, rows[k].v) from rfl, HKR.out.2.1, HKR.out.2.2]; rfl) (by rw [HRS2.out, HKR.out.1]; rfl) ⟨hpr, HLS.out, (fun e => by cases e), HSVv.out⟩ hcf
              clear hrow4 hm4 hmf hcf hpr hrow2 hrowp hcurp hmp hm q2 f2 k4 i0 i1 i2
              go_wp2
              go_roundw
              case rel => exact ⟨k + 1, _, by go_num, hk2, hst⟩
              case measure => simp [intOf]; omega

          · have hke : k = ks.length := by have := HHL.out; omega
            have htk : ks.take k = ks := by rw [hke]; exact List.take_length
            have hrk : rows.take k = rows := by rw [hke, ← hi.len]; exact List.take_length
            have hsaid := hi.said
            have hoks := hi.oks
            have hcur := hi.cur
            rw [htk, hrk] at hsaid
            rw [hrk] at hoks
            rw [htk] at hcur
            obtain ⟨oN, hoN⟩ : ∃ oN : Nat, oN = m0 + 16 * (ptsK ks).toNat := ⟨_, rfl⟩
            rw [← hoN] at hcur
            obtain ⟨pN, hpN⟩ : ∃ pN : Nat, pN = p.toNat := ⟨_, rfl⟩
            obtain ⟨qN, hqN⟩ : ∃ qN : Nat, qN = pts.toNat := ⟨_, rfl⟩
            have hlen2 := HLEN.out
            have hle1 : oN + pN * 16 + qN * 24 ≤ n := by omega
            have hpb : pN ≤ 100000 := by omega
            have hqb : qN ≤ 100000 := by omega
            have HPN := Lib.hid (show p = (pN : Int) by omega)
            have HQN := Lib.hid (show pts = (qN : Int) by omega)
            have HSAID := Lib.hid hsaid
            have HOKS := Lib.hid hoks
            have HL1 := Lib.hid (show pN * 16 ≤ (bs.drop oN).length ∧ (bs.drop oN).length ≤ 9223372036854775807 by rw [List.length_drop, ← HN.out]; omega)
            have HL2 := Lib.hid (show qN * 24 ≤ (bs.drop (oN + pN * 16)).length ∧ (bs.drop (oN + pN * 16)).length ≤ 9223372036854775807 by rw [List.length_drop, ← HN.out]; omega)
            obtain ⟨LP, hLP⟩ : ∃ LP, listAt (ptAt bs) oN pN 16 = LP := ⟨_, rfl⟩
            obtain ⟨LQ, hLQ⟩ : ∃ LQ, listAt (qrAt bs) (oN + pN * 16) qN 24 = LQ := ⟨_, rfl⟩
            have HLP := Lib.hid (show listAt (ptAt (bs.drop oN)) 0 pN 16 = LP by rw [listAt_dropD ptAt_drop]; exact hLP)
            have HLQ := Lib.hid (show listAt (qrAt (bs.drop (oN + pN * 16))) 0 qN 24 = LQ by rw [listAt_dropD qrAt_drop]; exact hLQ)
            have HLPS := Lib.hid (show SsP LP by rw [← hLP]; exact ptsAt_S hU fun i hi => by rw [← HN.out]; omega)
            have HLPL := Lib.hid (show pN = LP.length by rw [← hLP, listAt_len])
            have HLQL := Lib.hid (show qN = LQ.length by rw [← hLQ, listAt_len])
            have HLQO := Lib.hid (show ∀ q ∈ LQ, OkQ q by rw [← hLQ]; exact qrsAt_ok hU (by rw [← HN.out]; omega))
            have HDD := Lib.hid (show D = ⟨⟨op, vx, ks, pts⟩, regsAt bs ks m0, LP, LQ⟩ by
              have hq2 : LQ = qrsAt bs oN qN := by
                rw [← hLQ]
                by_cases e5 : op = 5
                · have hp0 : p = 0 := by rw [← HPQ.out.1]; unfold cntP; simp [e5]
                  rw [show pN = 0 by omega, Nat.zero_mul, Nat.add_zero]
                  rfl
                · have h0 := HK.out.pts0 e5
                  simp only at h0
                  rw [show qN = 0 by omega]
                  rfl
              rw [← HD2.out, hq2, ← hLP, hoN, hpN, hqN]
              unfold decR
              rw [HP.out]
              simp only
              rw [HPQ.out.1, HPQ.out.2]
              rfl)
            obtain ⟨wa, hwa⟩ : ∃ w0, w0 = wr := ⟨_, rfl⟩
            subst hwa
            have hbW7 : Below W.heap.size W W7 := hbW5.trans (HB7.out.mono hbW5.size)
            have hWs5 : W.heap.size ≤ b5 := by have := hb1.size; have := HORD.out; omega
            have hbwr : Below W.heap.size W wa := HI.out.moved.below hbW7 (fun g hg => by rcases hg with e | e; omega; have := HVV.out.1 g e; have := HORD.out; omega) hbW7.size
            have hwr : Below w.heap.size w wa := h0.trans (hbwr.mono h0.size)
            have hob := HOFF.out b5 (by have := HO7.out; have := HORD.out; omega) (by omega) (fun e => by have := HVV.out.1 b5 e; have := HORD.out; omega)
            have j0 := (World.cell?_of_block (a := ⟨b5, 0, none⟩) hob).trans g0
            have j1 := (World.cell?_of_block (a := ⟨b5, 1, none⟩) hob).trans g1
            have j2 := (World.cell?_of_block (a := ⟨b5, 2, none⟩) hob).trans g2
            have j3 := (World.cell?_of_block (a := ⟨b5, 3, none⟩) hob).trans g3
            have HWTR := Lib.hid (HWT.out.below hbwr)
            have HTL := Lib.hid (show ∀ g, (T g ∧ g < w.heap.size) → g < wa.heap.size from fun g h => Nat.lt_of_lt_of_le h.2 hwr.size)
            have hnTg : ¬ (T (b5 + 1) ∧ b5 + 1 < w.heap.size) := fun h => by have := h.2; have := HORD.out; omega
            have h9g : ¬ B9 = b5 + 1 := by have := HO7.out; have := HORD.out; omega
            have h95 : ¬ b5 = B9 := by have := HO7.out; have := HORD.out; omega
            have hbz9 : w.heap.size ≤ B9 ∧ w.heap.size ≤ b5 + 1 := by have := HO7.out; have := HORD.out; omega
            clear hke htk hrk hsaid hoks hoN hpN hqN hlen2 hLP hLQ hi hob
            go_wp2_with (fail)
            refine (pointsOf_any op vx pts (.slice hA hn2 hc2) ks p wa HWTR.out HK.out HPQ.out.1).mono ?_
            rintro e w12 ⟨rfl, hb12⟩
            go_wp2_with (fail)
            refine (takePoints_any (fun g => T g ∧ g < w.heap.size) (b5 + 1) (bs.drop oN) pN p w12 (hcur.next hb12) hnTg (fun g h => Nat.lt_of_lt_of_le (HTL.out g h) hb12.size) (hU.drop _) HL1.out.2 HPN.out hpb HL1.out.1).mono ?_
            rintro e w13 ⟨bp, rfl, hrow13, hcur13, hm13⟩
            rw [HLP.out] at hrow13
            rw [List.drop_drop] at hcur13
            have hbx12 := HBX9.out.same (hb12.block B9 HBX9.out.lt)
            have hbx13 := hbx12.same (hm13.block B9 hbx12.lt h9g)
            have hbp : w12.heap.size ≤ bp ∧ bp < w13.heap.size := World.ownsRow.lt hrow13 bp rfl
            have j3' := (hm13.cell (p := ⟨b5, 3, none⟩) (by have := lt_of_cell j3; have := hb12.size; show b5 < _; omega) (by show ¬ b5 = b5 + 1; omega)).trans ((hb12.cell (lt_of_cell j3)).trans j3)
            obtain ⟨⟨k0, k1, k2, k3, k4, k5, k6⟩, u0, u1, u2, u3, u4, u5, u6⟩ := hbx13.at_
            clear j0 j1 j2 j3
            go_upto_region 13 with (fail)
            obtain ⟨W14, hW14⟩ : ∃ W14, W14 = w13.setCell ⟨B9, 5, none⟩ (.slice (some ⟨bp, 0, none⟩) pN pN) := ⟨_, rfl⟩
            have hm14 : Moved (fun g => g = B9) w13 W14 := by rw [hW14]; exact moved_at
            have hbx14 : Box7 W14 B9 (.int .i64 op) (.int .i64 vx) (.slice hA hn2 hc2) (.int .i64 pts) V (.slice (some ⟨bp, 0, none⟩) pN pN) (.slice none 0 0) 35 := by rw [hW14]; exact hbx13.set5 _
            rw [← hW14]
            have j3 := (hm14.cell (p := ⟨b5, 3, none⟩) (lt_of_cell j3') h95).trans j3'
            have hcur14 := hcur13.keep hm14 (fun e => h9g e.symm) (fun g hg e => by have e : g = B9 := e; have := hg.2; omega)
            have hs14 : w12.heap.size ≤ W14.heap.size := Nat.le_trans hm13.size hm14.size
            clear hW14 k0 k1 k2 k3 k4 k5 k6 u0 u1 u2 u3 u4 u5 u6 j3'
            go_wp2_with (fail)
            refine (takeQueries_any (fun g => T g ∧ g < w.heap.size) (b5 + 1) (bs.drop (oN + pN * 16)) qN pts W14 hcur14 hnTg (fun g h => Nat.lt_of_lt_of_le (HTL.out g h) (Nat.le_trans hb12.size hs14)) (hU.drop _) HL2.out.2 HQN.out hqb HL2.out.1).mono ?_
            rintro e w15 ⟨bq, rfl, hrow15, hcur15, hm15⟩
            rw [HLQ.out] at hrow15
            have hbx15 := hbx14.same (hm15.block B9 hbx14.lt h9g)
            have hbq : W14.heap.size ≤ bq ∧ bq < w15.heap.size := World.ownsRow.lt hrow15 bq rfl
            obtain ⟨⟨k0, k1, k2, k3, k4, k5, k6⟩, u0, u1, u2, u3, u4, u5, u6⟩ := hbx15.at_
            clear j3
            go_upto_region 14 with (fail)
            obtain ⟨W16, hW16⟩ : ∃ W16, W16 = w15.setCell ⟨B9, 6, none⟩ (.slice (some ⟨bq, 0, none⟩) qN qN) := ⟨_, rfl⟩
            have hm16 : Moved (fun g => g = B9) w15 W16 := by rw [hW16]; exact moved_at
            have hbx16 : Box7 W16 B9 (.int .i64 op) (.int .i64 vx) (.slice hA hn2 hc2) (.int .i64 pts) V (.slice (some ⟨bp, 0, none⟩) pN pN) (.slice (some ⟨bq, 0, none⟩) qN qN) 35 := by rw [hW16]; exact hbx15.set6 _
            rw [← hW16]
            have hK13 : ∀ g, g < w13.heap.size → ¬ g = B9 → ¬ g = b5 + 1 → W16.heap[g]? = w13.heap[g]? := fun g h1 h2 h3 =>
              (hm16.block g (Nat.lt_of_lt_of_le h1 (Nat.le_trans hm14.size hm15.size)) h2).trans ((hm15.block g (Nat.lt_of_lt_of_le h1 hm14.size) h3).trans (hm14.block g h1 h2))
            have hKA : ∀ g, g < wa.heap.size → ¬ g = B9 → ¬ g = b5 + 1 → W16.heap[g]? = wa.heap[g]? := fun g h1 h2 h3 =>
              (hK13 g (Nat.lt_of_lt_of_le h1 (Nat.le_trans hb12.size hm13.size)) h2 h3).trans ((hm13.block g (Nat.lt_of_lt_of_le h1 hb12.size) h3).trans (hb12.block g h1))
            have hw12 := hwr.trans (hb12.mono hwr.size)
            have hw13 := hm13.below hw12 (fun g e => by have e : g = b5 + 1 := e; omega) hw12.size
            have hw14 := hm14.below hw13 (fun g e => by have e : g = B9 := e; omega) hw13.size
            have hw15 := hm15.below hw14 (fun g e => by have e : g = b5 + 1 := e; omega) hw14.size
            have hw16 := hm16.below hw15 (fun g e => by have e : g = B9 := e; omega) hw15.size
            have hordb : b < b5 ∧ b5 < W7.heap.size ∧ W7.heap.size ≤ wa.heap.size := ⟨by have := HORD.out; omega, by have := HORD.out; have := HO7.out; omega, HI.out.moved.size⟩
            have hVb : ∀ g, V.ownBlock = some g → W5.heap.size ≤ g ∧ ¬ g = B9 ∧ ¬ g = b5 + 1 ∧ ¬ g = b := fun g hg => by
              have h1 := HVV.out.1 g hg
              have h2 := HVV.out.2.2 g hg
              have := HORD.out
              exact ⟨h1, h2, by omega, by omega⟩
            have hbz := HB0.out.same ((hKA b (by omega) (by have := HO7.out; have := HORD.out; omega) (by omega)).trans ((HOFF.out b (by omega) (by omega) (fun e => (hVb b e).2.2.2 rfl)).trans (HB7.out.block b HB0.out.lt)))
            have HBZ := Lib.hid hbz
            obtain ⟨⟨z0, z1, z2, z3, z4, z5, z6⟩, t0, t1, t2, t3, t4, t5, t6⟩ := hbz.at_
            obtain ⟨RA, rc, hV, hlcV, hcmV, hrV, hnilV⟩ := own_rowR (C := rgC) rgC_len (own_len HI.out.row)
            obtain ⟨rn, hrn⟩ : ∃ rn, rn = rows.length := ⟨_, rfl⟩
            rw [← hrn] at hV
            have HRN := Lib.hid hrn
            have HRV := Lib.hid (hrV.imp (T := fun g => W5.heap.size ≤ g ∧ ¬ g = B9 ∧ ¬ g = b5 + 1 ∧ ¬ g = b) fun g hg => hVb g hg)
            have HPR := Lib.hid (own_rowAt ptC_len HLPL.out hrow13)
            have HQR := Lib.hid (own_rowAt qrC_len HLQL.out hrow15)
            have HHR := Lib.hid ((HRW7.out.keep (w' := wa) fun g hg hlt => HOFF.out g hlt (by have := hg.2; omega) (fun e => by have := HVV.out.1 g e; have := HORD.out; have := hg.2; omega)))
            obtain ⟨⟨k0, k1, k2, k3, k4, k5, k6⟩, -⟩ := hbx16.at_
            rw [hV] at k4
            clear hrn hrV hVb hbz hW16 u0 u1 u2 u3 u4 u5 u6 hV hlcV hcmV hnilV hrow13 hrow15 hcur hcur13 hcur14 hcur15 hbx12 hbx13 hbx14 hbx15 hbx16
            go_wp2
            generalize hWf : ((((((W16.setCell ⟨b, 0, none⟩ (.int .i64 op)).setCell ⟨b, 1, none⟩ (.int .i64 vx)).setCell ⟨b, 2, none⟩ (.slice hA hn2 hc2)).setCell ⟨b, 3, none⟩ (.int .i64 pts)).setCell ⟨b, 4, none⟩ (.slice RA rn rc)).setCell ⟨b, 5, none⟩ (.slice (some ⟨bp, 0, none⟩) pN pN)).setCell ⟨b, 6, none⟩ (.slice (some ⟨bq, 0, none⟩) qN qN) = Wf
            obtain ⟨hbf, hoth, hbq7⟩ := fin7 HBZ.out hw16 hbw hWf
            obtain ⟨⟨y0, y1, y2, y3, y4, y5, y6⟩, _⟩ := hbq7.at_
            exact bodyPost_ret (v := .tuple #[.agg #[.int .i64 op, .int .i64 vx, .slice hA hn2 hc2, .int .i64 pts, .slice RA rn rc, .slice (some ⟨bp, 0, none⟩) pN pN, .slice (some ⟨bq, 0, none⟩) qN qN], .int .i64 0]) (by simp [results, Tryd.results14, go_sem, y0, y1, y2, y3, y4, y5, y6]) rfl (by
              rw [HDD.out]
              refine ⟨hA, hn2, hc2, hrs, RA, rn, rc, rows, some ⟨bp, 0, none⟩, pN, pN, some ⟨bq, 0, none⟩, qN, qN, rfl, ⟨?_, HHN.out, ?_, HRN.out, ?_, ?_, HLPL.out, HLPS.out, ?_, HLQL.out, HLQO.out, Nat.le_refl _⟩, HKS.out, HRP.out, HSAID.out, hbf⟩
              · exact (HHR.out.keep (w' := Wf) fun g hg hlt => (hoth g (by have := hg.1; omega)).trans (hKA g hlt (by have := hg.2; have := HO7.out; have := HORD.out; omega) (by have := hg.2; omega))).imp fun g hg => by have := hg.1; have := hw1.size; omega
              · exact (HRV.out.keep (w' := Wf) fun g hg hlt => (hoth g hg.2.2.2).trans (hKA g hlt hg.2.1 hg.2.2.1)).imp fun g hg => by have := hg.1; have := hw5.size; omega
              · intro x hx
                obtain ⟨r1, r2, r3, r4⟩ := HOKS.out x hx
                exact ⟨(r1.keep (w' := Wf) fun g hg hlt => (hoth g (by have hg : W7.heap.size ≤ g := hg; have := HO7.out; have := HORD.out; omega)).trans (hKA g hlt (by have hg : W7.heap.size ≤ g := hg; have := HO7.out; have := HORD.out; omega) (by have hg : W7.heap.size ≤ g := hg; have := HO7.out; have := HORD.out; omega))).imp fun g hg => by have hg : W7.heap.size ≤ g := hg; have := HO7.out; have := HORD.out; omega, r2, r3, r4⟩
              · have hlow : W7.heap.size ≤ bp := by have := hb12.size; omega
                exact (HPR.out.keep (w' := Wf) fun g hg hlt => (hoth g (by have hg : g = bp := hg; have := HO7.out; have := HORD.out; omega)).trans (hK13 g hlt (by have hg : g = bp := hg; have := HO7.out; have := HORD.out; omega) (by have hg : g = bp := hg; have := HO7.out; have := HORD.out; omega))).imp fun g hg => by have hg : g = bp := hg; have := HO7.out; have := HORD.out; omega
              · have hlow : W7.heap.size ≤ bq := by have := hb12.size; omega
                exact (HQR.out.keep (w' := Wf) fun g hg hlt => (hoth g (by have hg : g = bq := hg; have := HO7.out; have := HORD.out; omega)).trans (hm16.block g hlt (by have hg : g = bq := hg; have := HO7.out; have := HORD.out; show ¬ g = B9; omega))).imp fun g hg => by have hg : g = bq := hg; have := HO7.out; have := HORD.out; omega)
    · rw [if_neg hpe] at hcl
      exact absurd hcl hpe
  · have d1 : (er != 0) = true := by rw [bne_iff_ne]; exact hf
    have HX := Lib.hid (show D = ⟨⟨0, 0, [], 0⟩, [], [], []⟩ by rw [← HD.out, if_neg hf])
    clear hf
    go_wp2
    generalize hWf : ((((((w1.setCell ⟨b, 0, none⟩ (.int .i64 0)).setCell ⟨b, 1, none⟩ (.int .i64 0)).setCell ⟨b, 2, none⟩ (.slice none 0 0)).setCell ⟨b, 3, none⟩ (.int .i64 0)).setCell ⟨b, 4, none⟩ (.slice none 0 0)).setCell ⟨b, 5, none⟩ (.slice none 0 0)).setCell ⟨b, 6, none⟩ (.slice none 0 0) = Wf
    obtain ⟨hbf, _, hbz⟩ := fin7 HBX.out hw1 hbw hWf
    obtain ⟨⟨y0, y1, y2, y3, y4, y5, y6⟩, _⟩ := hbz.at_
    exact bodyPost_ret (v := .tuple #[.agg #[.int .i64 0, .int .i64 0, .slice none 0 0, .int .i64 0, .slice none 0 0, .slice none 0 0, .slice none 0 0], .int .i64 er]) (by simp [results, Tryd.results14, go_sem, y0, y1, y2, y3, y4, y5, y6]) rfl (by rw [HX.out]; exact ⟨none, 0, 0, [], none, 0, 0, [], none, 0, 0, none, 0, 0, rfl, ⟨RowR.nil_ _ _ _, rfl, RowR.nil_ _ _ _, rfl, (fun _ h => by cases h), RowR.nil_ _ _ _, rfl, (fun _ h => by cases h), RowR.nil_ _ _ _, rfl, (fun _ h => by cases h), Nat.le_refl _⟩, rfl, rfl, rfl, hbf⟩)
end Go.Proofs.YtcfdpimpleniaaaDoor
namespace Go.Proofs.YtcfdpimpleniaaaDoor
open Go.RowKit
set_option maxRecDepth 100000
set_option linter.unusedVariables false
set_option linter.unusedSimpArgs false

def WdRel (w : World) (base : Nat) (v : Value) (ys : List Int) (x : Int) (b y i : Value) (wr : World) : Prop :=
  ∃ (k : Nat) (yv : Int), i = .int .i64 k ∧ k ≤ 8 ∧ y = .int .u64 yv ∧ yv = shr k x ∧ Grew w base v (ys ++ digs k x) b wr
set_option maxHeartbeats 1000000 in
theorem ref18Word_any (base : Nat) (v : Value) (ys : List Int) (x : Int) (w : World) (hown : OwnK w base 5 .u8 v ys) (hl : ys.length ≤ 900000) (hbase : base ≤ w.heap.size) (hx : U x) :
    Calls Tryd.prog 35 #[v, .int .u64 x] w fun e w' => ∃ v', e = .returned v' ∧ Grew w base v (ys ++ digs 8 x) v' w' := by
  go_enter Tryd.func35, Tryd.ntmps35
  go_wp2
  go_loopw [0, 1, 5] (fun b y i wr => WdRel w base v ys x b y i wr) (fun _ _ i _ => 8 - (intOf i).toNat)
  case atStart => exact ⟨0, x, rfl, by omega, rfl, rfl, by rw [show digs 0 x = [] from rfl, List.append_nil]; exact Grew.refl hown⟩
  case round =>
    obtain ⟨k, yv, rfl, hk, rfl, hy, hg⟩ := hrel
    by_cases hgo : k < 8
    · have hyU : U yv := by rw [hy]; exact shr_U k hx
      have hy0 := hyU.1
      have hy1 : yv ≤ 18446744073709551615 := hyU.2
      have HD := Lib.hid (digs_snoc k x)
      have HS := Lib.hid (shr_succ k x)
      rw [← hy] at HD HS
      have hdl := digs_len k x
      generalize digs k x = D at hg HD hdl
      have hrow := hg.row
      have hsz := hg.moved.size
      have e1 : IntKind.u64.wrap (yv.tmod 256) = yv % 256 := by rw [Int.tmod_eq_emod_of_nonneg hy0]; exact wrap_u64' (by omega) (by omega)
      have e2 : IntKind.u8.wrap (yv % 256) = yv % 256 := wrap_u8' (by omega) (by omega)
      have e3 : IntKind.u64.wrap (yv.tdiv 256) = yv / 256 := by rw [Int.tdiv_eq_ediv_of_nonneg hy0]; exact wrap_u64' (by omega) (by omega)
      have HX := Lib.hid hx
      have hlen : (ys ++ D).length ≤ 900010 := by rw [List.length_append]; omega
      clear hy hx hown hdl
      obtain ⟨Y, hY⟩ : ∃ Y, Y = ys ++ D := ⟨_, rfl⟩
      rw [← hY] at hg hrow hlen
      have HY := Lib.hid hY
      clear hY
      go_wp2_with (first
        | (at_builtin; refine wp_grow_lit rfl _ _ rfl base _ Y rfl hrow [yv % 256] 1 1 rfl rfl (by simp; omega) (by omega) ?_
           intro v2 w2 hg2))
      go_roundw
      case rel => exact ⟨k + 1, yv / 256, by go_num, by omega, rfl, HS.out.symm, by rw [HD.out, ← List.append_assoc, ← HY.out]; exact hg.trans hg2⟩
      case measure => simp [intOf]; omega
    · have hk8 : k = 8 := by omega
      subst hk8
      go_wp2
      go_ret
      exact ⟨_, rfl, hg⟩
set_option maxHeartbeats 1000000 in
theorem ref18Point_any (base : Nat) (v : Value) (ys : List Int) (p : Pt) (w : World) (hown : OwnK w base 5 .u8 v ys) (hl : ys.length ≤ 800000) (hbase : base ≤ w.heap.size) (hp : S p.x ∧ S p.y) :
    Calls Tryd.prog 34 #[v, .agg #[.int .i64 p.x, .int .i64 p.y]] w fun e w' => ∃ v', e = .returned v' ∧ Grew w base v (ys ++ ptB p) v' w' := by
  obtain ⟨W, hW⟩ : ∃ W, W = w.alloc (.cells #[.int .i64 p.x, .int .i64 p.y] 65) := ⟨_, rfl⟩
  obtain ⟨bx, hbx⟩ : ∃ bx, bx = w.heap.size := ⟨_, rfl⟩
  have h0 : Below w.heap.size w W := by rw [hW]; exact (Below.refl _ _).alloc (Nat.le_refl _) _
  have kx0 : W.cell? ⟨bx, 0, none⟩ = some (.int .i64 p.x) := by rw [hW, hbx]; simp [go_sem]
  have kx1 : W.cell? ⟨bx, 1, none⟩ = some (.int .i64 p.y) := by rw [hW, hbx]; simp [go_sem]
  have hnt : ¬ v.ownBlock = some bx := fun e => by have := (World.ownsRow.lt hown bx e).2; omega
  have hownW : OwnK W base 5 .u8 v ys := hown.nextB h0
  have hbW : base ≤ W.heap.size := Nat.le_trans hbase h0.size
  have e1 : IntKind.u64.wrap p.x = toU p.x := by rw [wrap_u]; rfl
  have e2 : IntKind.u64.wrap p.y = toU p.y := by rw [wrap_u]; rfl
  have HW := Lib.hid hW
  have HB := Lib.hid hbx
  clear hW hbx hown
  go_enter Tryd.func34, Tryd.ntmps34
  go_upto_region 1 with (fail)
  rw [← HW.out, ← HB.out]
  refine dirP_plain (by kernel_rfl) (fun b => v.ownBlock = some b) 4 [] 8 [[], [], [(6, 1)], [(7, 2)], [(5, 0), (8, 3)], [], [(10, 5)], [(11, 6)], [(9, 4), (12, 7)], [(13, 8)]] [(5, 0), (6, 1), (7, 2), (8, 3), (9, 4), (10, 5), (11, 6), (12, 7)] [
      (fun z_ => z_ = v),
      (fun z_ => z_ = .pointer (some ⟨bx, 0, none⟩)),
      (fun z_ => z_ = .int .i64 p.x),
      (fun z_ => z_ = .int .u64 (toU p.x)),
      (fun _ => True),
      (fun z_ => z_ = .pointer (some ⟨bx, 1, none⟩)),
      (fun z_ => z_ = .int .i64 p.y),
      (fun z_ => z_ = .int .u64 (toU p.y))
    ] [(fun _ _ => True), (fun _ _ => True), (fun _ _ => True), (fun _ _ => True), (fun _ _ => True), (fun _ _ => True), (fun _ _ => True), (fun _ _ => True)] (fun v' w' => Grew W base v (ys ++ digs 8 (toU p.x)) v' w')
    (by kernel_rfl) (by kernel_rfl) (by kernel_rfl) (by decide) ⟨fun _ _ _ h _ => h, fun _ _ _ h _ => h, fun _ _ _ h _ => h, fun _ _ _ h _ => h, fun _ _ _ h _ => h, fun _ _ _ h _ => h, fun _ _ _ h _ => h, fun _ _ _ h _ => h, trivial⟩ (Grew.dst) ?steps (by decide) ?fin
  case steps =>
    refine ⟨?_, ?_, ?_, ?_, ?_, ?_, ?_, ?_, trivial⟩
    · intro vs g w2 hI hF hR K hK
      simp only [Facts, fill, Act.put, z1, z2, z3, z4, z5, Nat.reduceAdd] at hF hR hK ⊢
      go_simp
      exact hK _ _ _ (hI.step (by decide) (Below.refl _ _)) ⟨rfl, fun _ => Below.refl _ _⟩ ⟨updG_same _ _, rfl, fun _ => trivial, fun e => absurd e (by decide)⟩
    · intro vs g w2 hI hF hR K hK
      simp only [Facts, fill, Act.put, z1, z2, z3, z4, z5, Nat.reduceAdd] at hF hR hK ⊢
      go_simp
      exact hK _ _ _ (hI.step (by decide) (Below.refl _ _)) ⟨rfl, fun _ => Below.refl _ _⟩ ⟨updG_same _ _, rfl, fun _ => trivial, fun e => absurd e (by decide)⟩
    · intro vs g w2 hI hF hR K hK
      simp only [Facts, fill, Act.put, z1, z2, z3, z4, z5, Nat.reduceAdd] at hF hR hK ⊢
      obtain ⟨q1, -⟩ := hR
      have r1 : .pointer (some ⟨bx, 0, none⟩) = vs 1 := Eq.symm q1.val
      generalize vs 1 = x1 at *
      subst r1
      have k0 := (hI.moved.cell (lt_of_cell kx0) hnt).trans kx0
      go_simp
      exact hK _ _ _ (hI.step (by decide) (Below.refl _ _)) ⟨rfl, fun _ => Below.refl _ _⟩ ⟨updG_same _ _, rfl, fun _ => trivial, fun e => absurd e (by decide)⟩
    · intro vs g w2 hI hF hR K hK
      simp only [Facts, fill, Act.put, z1, z2, z3, z4, z5, Nat.reduceAdd] at hF hR hK ⊢
      obtain ⟨q2, -⟩ := hR
      have r2 : .int .i64 p.x = vs 2 := Eq.symm q2.val
      generalize vs 2 = x2 at *
      subst r2
      go_simp
      exact hK _ _ _ (hI.step (by decide) (Below.refl _ _)) ⟨rfl, fun _ => Below.refl _ _⟩ ⟨updG_same _ _, rfl, fun _ => trivial, fun e => absurd e (by decide)⟩
    · intro vs g w2 hI hF hR K hK
      simp only [Facts, fill, Act.put, z1, z2, z3, z4, z5, Nat.reduceAdd] at hF hR hK ⊢
      obtain ⟨q0, q3, -⟩ := hR
      have r0 : v = vs 0 := Eq.symm q0.val
      have r3 : .int .u64 (toU p.x) = vs 3 := Eq.symm q3.val
      generalize vs 0 = x0, vs 3 = x3 at *
      subst r0 r3
      have hB := hI.below hF
      go_simp
      refine (ref18Word_any base v ys (toU p.x) w2 (hownW.nextB hB) (by omega) (Nat.le_trans hbW hB.size) (toU_U _)).mono ?_
      rintro e w3 ⟨v3, rfl, hg3⟩
      have hg := Grew.ahead hB hg3
      exact hK _ _ _ (hI.end_ (fun i hi => by cases hi) hg.moved) ⟨rfl, fun e => absurd rfl e⟩ ⟨updG_same _ _, trivial, fun e => (by rw [updG_same] at e; cases e), fun _ => hg⟩
    · intro vs g w2 hI hF hR K hK
      simp only [Facts, fill, Act.put, z1, z2, z3, z4, z5, Nat.reduceAdd] at hF hR hK ⊢
      go_simp
      exact hK _ _ _ (hI.step (by decide) (Below.refl _ _)) ⟨rfl, fun _ => Below.refl _ _⟩ ⟨updG_same _ _, rfl, fun _ => trivial, fun e => absurd e (by decide)⟩
    · intro vs g w2 hI hF hR K hK
      simp only [Facts, fill, Act.put, z1, z2, z3, z4, z5, Nat.reduceAdd] at hF hR hK ⊢
      obtain ⟨q5, -⟩ := hR
      have r5 : .pointer (some ⟨bx, 1, none⟩) = vs 5 := Eq.symm q5.val
      generalize vs 5 = x5 at *
      subst r5
      have k0 := (hI.moved.cell (lt_of_cell kx1) hnt).trans kx1
      go_simp
      exact hK _ _ _ (hI.step (by decide) (Below.refl _ _)) ⟨rfl, fun _ => Below.refl _ _⟩ ⟨updG_same _ _, rfl, fun _ => trivial, fun e => absurd e (by decide)⟩
    · intro vs g w2 hI hF hR K hK
      simp only [Facts, fill, Act.put, z1, z2, z3, z4, z5, Nat.reduceAdd] at hF hR hK ⊢
      obtain ⟨q6, -⟩ := hR
      have r6 : .int .i64 p.y = vs 6 := Eq.symm q6.val
      generalize vs 6 = x6 at *
      subst r6
      go_simp
      exact hK _ _ _ (hI.step (by decide) (Below.refl _ _)) ⟨rfl, fun _ => Below.refl _ _⟩ ⟨updG_same _ _, rfl, fun _ => trivial, fun e => absurd e (by decide)⟩
  case fin =>
    intro vs w2 hm hpo hR
    have r7 : .int .u64 (toU p.y) = vs 7 := Eq.symm (hR 7 (by decide))
    simp only [fill, Act.put, z1, z2, z3, z4, z5] at ⊢
    clear hR
    generalize vs 7 = x7 at *
    generalize vs 4 = x4 at *
    subst r7
    have hlen : (ys ++ digs 8 (toU p.x)).length ≤ 900000 := by rw [List.length_append, digs_len]; omega
    refine wpOps_step rfl rfl ?_
    go_simp
    refine (ref18Word_any base x4 (ys ++ digs 8 (toU p.x)) (toU p.y) w2 hpo.row hlen (Nat.le_trans hbW hpo.moved.size) (toU_U _)).mono ?_
    rintro e w3 ⟨v3, rfl, hg3⟩
    refine wpOps_step rfl rfl ?_
    go_simp
    refine NoPanic.normal ?_
    go_wp2
    have hg := Grew.ahead h0 (hpo.trans hg3)
    rw [List.append_assoc] at hg
    exact bodyPost_ret (v := v3) (by simp [results, Tryd.results34, go_sem]) rfl ⟨v3, rfl, hg⟩
end Go.Proofs.YtcfdpimpleniaaaDoor
