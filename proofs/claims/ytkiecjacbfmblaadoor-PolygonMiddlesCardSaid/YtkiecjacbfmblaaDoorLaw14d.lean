/-
  Layer 14: PolygonMiddles. (Written by law14d.py.)
-/
import Derived.Test.YtkiecjacbfmblaaDoorLaw14
import Derived.Test.YtkiecjacbfmblaaDoorEven
import Derived.Shelf.RegionOpenPlain
import Derived.Deep.DeepCutAuto
import Derived.Deep.CutRange
import Derived.Deep.Onto
import Derived.Deep.CutBlock
namespace Go.Proofs.YtkiecjacbfmblaaDoor
open Go.RowKit Go.Maps
set_option maxRecDepth 100000
set_option linter.unusedVariables false
set_option linter.unusedSimpArgs false

/-- A point with even coordinates beneath another. -/
def e2 (p : Pt) : Pt := ⟨p.x - p.x % 2, p.y - p.y % 2⟩
def e2L (k : Nat) (l : List Pt) : List Pt := (l.take k).map e2 ++ l.drop k
theorem e2L_len (k : Nat) (l : List Pt) : (e2L k l).length = l.length := by unfold e2L; simp; omega
theorem e2L_zero (l : List Pt) : e2L 0 l = l := by unfold e2L; simp
theorem e2L_get {k : Nat} {l : List Pt} (h : k < l.length) : (e2L k l)[k]'(by rw [e2L_len]; exact h) = l[k] := by
  unfold e2L
  rw [List.getElem_append_right (by simp; omega)]
  simp [Nat.min_eq_left (Nat.le_of_lt h)]
theorem e2L_step {k : Nat} {l : List Pt} (h : k < l.length) : (e2L k l).set k (e2 l[k]) = e2L (k + 1) l := by
  unfold e2L
  rw [List.set_append, if_neg (by simp; omega), List.take_succ_eq_append_getElem h, List.map_append, List.append_assoc, show k - ((l.take k).map e2).length = 0 by simp; omega]
  congr 1
  rw [show l.drop k = l[k] :: l.drop (k + 1) from List.drop_eq_getElem_cons h]
  rfl
theorem e2L_all (l : List Pt) : e2L l.length l = l.map e2 := by unfold e2L; rw [List.take_length, List.drop_length, List.append_nil]
theorem e2L_ss {l : List Pt} (h : SsP l) : SsP (l.map e2) := by
  intro r hr
  obtain ⟨x, hx, rfl⟩ := List.mem_map.1 hr
  exact ⟨even_S (h x hx).1, even_S (h x hx).2⟩
theorem e2_at {l : List Pt} {i : Nat} (h : i < l.length) : ∃ a b : Int, (Go.Proofs.YtkiecjacbfmblaaDoor.at_ (l.map e2) i).x = 2 * a ∧ (Go.Proofs.YtkiecjacbfmblaaDoor.at_ (l.map e2) i).y = 2 * b := by
  rw [at_lt (by rw [List.length_map]; exact h), List.getElem_map]
  obtain ⟨a, ha⟩ := even_sub (l[i]).x
  obtain ⟨b, hb⟩ := even_sub (l[i]).y
  exact ⟨a, b, ha, hb⟩
theorem half_any (p q : Pt) (a b c d : Int) (w : World) (hp : S p.x ∧ S p.y) (hq : S q.x ∧ S q.y) (e1 : p.x = 2 * a) (e2 : p.y = 2 * b) (e3 : q.x = 2 * c) (e4 : q.y = 2 * d) :
    Calls Tryd.prog 26 #[.agg #[.int .i64 p.x, .int .i64 p.y], .agg #[.int .i64 q.x, .int .i64 q.y]] w fun e w' => e = .returned (.agg #[.int .i64 (a + c), .int .i64 (b + d)]) ∧ Below w.heap.size w w' := by
  obtain ⟨px, py⟩ := p
  obtain ⟨qx, qy⟩ := q
  simp only at e1 e2 e3 e4 hp hq ⊢
  have g1 : px.tdiv 2 = a := half_even e1
  have g2 : py.tdiv 2 = b := half_even e2
  have g3 : qx.tdiv 2 = c := half_even e3
  have g4 : qy.tdiv 2 = d := half_even e4
  have u1 : IntKind.i64.wrap a = a := wrap_i64' (by unfold S at hp; omega) (by unfold S at hp; omega)
  have u2 : IntKind.i64.wrap b = b := wrap_i64' (by unfold S at hp; omega) (by unfold S at hp; omega)
  have u3 : IntKind.i64.wrap c = c := wrap_i64' (by unfold S at hq; omega) (by unfold S at hq; omega)
  have u4 : IntKind.i64.wrap d = d := wrap_i64' (by unfold S at hq; omega) (by unfold S at hq; omega)
  have u5 : IntKind.i64.wrap (a + c) = a + c := wrap_i64' (by unfold S at hp hq; omega) (by unfold S at hp hq; omega)
  have u6 : IntKind.i64.wrap (b + d) = b + d := wrap_i64' (by unfold S at hp hq; omega) (by unfold S at hp hq; omega)
  obtain ⟨x, hx⟩ : ∃ x, a + c = x := ⟨_, rfl⟩
  obtain ⟨y, hy⟩ : ∃ y, b + d = y := ⟨_, rfl⟩
  rw [hx] at u5
  rw [hy] at u6
  rw [hx, hy]
  clear e1 e2 e3 e4 hp hq
  go_enter Tryd.func26, Tryd.ntmps26
  go_wp2
  refine bodyPost_ret (v := .agg #[.int .i64 x, .int .i64 y]) (by simp [results, Tryd.results26, go_sem]) rfl ⟨rfl, ?_⟩
  exact (((Below.refl _ _).alloc (Nat.le_refl _) _).alloc (by simp) _).alloc (by simp; omega) _
def MidRel (W : World) (N : Nat) (i : Value) (wr : World) : Prop := ∃ k : Nat, i = .int .i64 k ∧ k ≤ N ∧ Below W.heap.size W wr
def MjdRel (W : World) (N : Nat) (i : Value) (wr : World) : Prop := ∃ k : Nat, i = .int .i64 k ∧ k ≤ N ∧ Below W.heap.size W wr
set_option maxHeartbeats 2000000 in
theorem law_polygonMiddles (A : Option Addr) (c : Nat) (l : List Pt) (w : World) (hw : Wts w) (ha : ArgP w A c l) :
    Calls Tryd.prog 8 #[.slice A l.length c] w fun e w' => e = .returned (.bool true) ∧ Below w.heap.size w w' := by
  by_cases hgt : 20 < l.length
  · go_enter Tryd.func8, Tryd.ntmps8
    go_wp2_with (fail)
    refine (alive14_any _ hw).mono ?_
    rintro e w1 ⟨rfl, hb⟩
    go_wp2
    go_ret
    exact ⟨rfl, hb⟩
  · have HSS := Lib.hid ha.ss
    go_enter Tryd.func8, Tryd.ntmps8
    go_wp2_with (fail)
    refine (clonePt_any A c _ l _ w ha.row rfl ha.nil (by omega)).mono ?_
    rintro e w1 ⟨v1, rfl, hown1, hb1⟩
    obtain ⟨A1, c1, rfl, hc1, _, hrow1, hn1⟩ := own_rowR (C := ptC) (fun _ => rfl) hown1
    clear hrow1
    go_upto_block 0 with (fail)
    go_cut [] from 15 to 40 (fun wx => wx.ownsRow w.heap.size 31 2 (.slice A1 l.length c1) l.length ((e2L l.length l).flatMap ptC) ∧ Below w.heap.size w wx)
    case first =>
      go_wp2_with (fail)
      go_loopw [17] (fun i wr => ∃ k : Nat, i = .int .i64 k ∧ k ≤ l.length ∧ wr.ownsRow w.heap.size 31 2 (.slice A1 l.length c1) l.length ((e2L k l).flatMap ptC) ∧ Below w.heap.size w wr) (fun i _ => l.length - (intOf i).toNat)
      case atStart => exact ⟨0, rfl, Nat.zero_le _, by rw [e2L_zero]; exact hown1, hb1⟩
      case round =>
        clear hown1 hb1
        obtain ⟨k, rfl, hk, hrow, hb⟩ := hrel
        by_cases hgo : k < l.length
        · obtain ⟨g, c', e1, hg, _⟩ := hrow.form (by omega)
          injection e1 with e1 _ e2
          subst e1 e2
          have hkm : k < (e2L k l).length := by rw [e2L_len]; exact hgo
          obtain ⟨k0, k1, f0, f1⟩ := own_pt2 (e2L_len k l) hrow hkm
          rw [e2L_get hgo] at k0 k1
          obtain ⟨X, hX⟩ : ∃ X, X = l[k]'hgo := ⟨_, rfl⟩
          rw [← hX] at k0 k1
          have hXs := HSS.out X (by rw [hX]; exact List.getElem_mem hgo)
          have z1 : bits .andNot .i64 X.x 1 = (e2 X).x := andNot1 hXs.1
          have z2 : bits .andNot .i64 X.y 1 = (e2 X).y := andNot1 hXs.2
          have HX := Lib.hid hX
          have HR := Lib.hid hrow
          have mixed : Tryd.prog.follows Departure.mixedOrders = true := by kernel_rfl
          obtain ⟨E, hE⟩ : ∃ E, e2 X = E := ⟨_, rfl⟩
          rw [hE] at z1 z2
          have HE := Lib.hid hE
          clear hX hrow hXs hE
          go_wp2_with (fail)
          go_region_o
          go_wp2
          have hrow2 := own_setP HR.out k E
          rw [show (e2L k l).set k E = e2L (k + 1) l by rw [← HE.out, HX.out]; exact e2L_step hgo] at hrow2
          exact ⟨⟨k + 1, by go_num, hgo, hrow2, below_drewN' ((hb.setCell (p := ⟨g, k * 2, none⟩) hg _).setCell (p := ⟨g, k * 2 + 1, none⟩) hg _) 1⟩, by simp [intOf]; omega⟩
        · obtain rfl : k = l.length := by omega
          go_wp2
          go_meet
          exact ⟨hrow, hb⟩
    case rest =>
      obtain ⟨hm0, hb0⟩ := hcut
      clear hown1 hb1
      rw [e2L_all] at hm0
      obtain ⟨M, hM⟩ : ∃ M, M = l.map e2 := ⟨_, rfl⟩
      obtain ⟨N, hN⟩ : ∃ N, N = l.length := ⟨_, rfl⟩
      have HUM := Lib.hid (show SsP M by rw [hM]; exact e2L_ss HSS.out)
      have hml : N = M.length := by rw [hN, hM, List.length_map]
      have HEV := Lib.hid (show ∀ i, i < N → ∃ a b : Int, (Go.Proofs.YtkiecjacbfmblaaDoor.at_ M i).x = 2 * a ∧ (Go.Proofs.YtkiecjacbfmblaaDoor.at_ M i).y = 2 * b from fun i hi => by rw [hM]; exact e2_at (by rw [← hN]; exact hi))
      rw [← hM, ← hN] at hm0
      rw [← hN]
      have HML := Lib.hid hml
      have hl : N ≤ 1000000 := by omega
      have hN20 : N ≤ 20 := by omega
      have hrM : RowR wc (fun _ => True) 2 ptC A1 M := by
        obtain ⟨A1', c1', e1, _, _, h, _⟩ := own_rowR (C := ptC) (fun _ => rfl) (l := M) (by rw [← hml]; exact hm0)
        injection e1 with e1
        subst e1
        exact h.imp fun _ _ => trivial
      have hwW : ∀ {w2 : World}, Below wc.heap.size wc w2 → Wts w2 := fun h => hw.below (hb0.trans (h.mono hb0.size))
      clear hM hml hN hgt
      cases hr : validP M with
      | false =>
        have HR := Lib.hid hr
        clear hr hN20 hl
        go_wp2_with (fail)
        refine (ref14Valid_any A1 c1 N M false _ _ hrM HML.out HUM.out HR.out).mono ?_
        rintro e w3 ⟨rfl, hb3⟩
        have h3 := hb0.trans (hb3.mono hb0.size)
        go_wp2_with (fail)
        refine (alive14_any _ (hw.below h3)).mono ?_
        rintro e w4 ⟨rfl, hb4⟩
        go_wp2
        go_ret
        exact ⟨rfl, h3.trans (hb4.mono h3.size)⟩
      | true =>
        have HR := Lib.hid hr
        have hn3 := (isP_iff M).1 (valid_s hr).1
        have hN3 : 3 ≤ N := by have := HML.out; omega
        obtain ⟨g, c', e1, hg, _⟩ := hm0.form (by omega)
        injection e1 with e1 e1b e1c
        subst e1
        clear hr hn3 hm0 e1b e1c
        go_wp2_with (fail)
        refine (ref14Valid_any _ c1 N M true _ _ hrM HML.out HUM.out HR.out).mono ?_
        rintro e w3 ⟨rfl, hb3⟩
        go_wp2
        go_loopw [48] (fun i wr => MidRel wc N i wr) (fun i _ => N - (intOf i).toNat)
        case atStart => exact ⟨0, rfl, Nat.zero_le _, hb3⟩
        case round =>
          clear hb3
          obtain ⟨i, rfl, hi, hb⟩ := hrel
          by_cases hgi : i < N
          · go_wp2
            go_loopw [52] (fun j wr => MjdRel wc i j wr) (fun j _ => i - (intOf j).toNat)
            case atStart => exact ⟨0, rfl, Nat.zero_le _, hb⟩
            case round =>
              clear hb
              obtain ⟨j, rfl, hj, hb⟩ := hrel
              by_cases hgj : j < i
              · obtain ⟨p0, p1⟩ := (hrM.next hb).pt2 (k := i) (by rw [← HML.out]; exact hgi)
                obtain ⟨q0, q1⟩ := (hrM.next hb).pt2 (k := j) (by rw [← HML.out]; omega)
                have hXs := HUM.out.ss (k := i) (by rw [← HML.out]; exact hgi)
                have hYs := HUM.out.ss (k := j) (by rw [← HML.out]; omega)
                obtain ⟨xa, xb, ex1, ex2⟩ := HEV.out i hgi
                obtain ⟨ya, yb, ey1, ey2⟩ := HEV.out j (by omega)
                have hloc := loc_middle (m := ⟨xa + ya, xb + yb⟩) HR.out (i := i) (j := j) (by rw [← HML.out]; exact hgi) hgj (by show 2 * (xa + ya) = _; omega) (by show 2 * (xb + yb) = _; omega)
                rw [← HML.out] at hloc
                obtain ⟨X, hX⟩ : ∃ X, Go.Proofs.YtkiecjacbfmblaaDoor.at_ M i = X := ⟨_, rfl⟩
                obtain ⟨Y, hY⟩ : ∃ Y, Go.Proofs.YtkiecjacbfmblaaDoor.at_ M j = Y := ⟨_, rfl⟩
                rw [hX] at p0 p1 hXs ex1 ex2
                rw [hY] at q0 q1 hYs ey1 ey2
                rw [Nat.zero_add] at p0 p1 q0 q1
                have hhalf := fun w2 => half_any X Y xa xb ya yb w2 hXs hYs ex1 ex2 ey1 ey2
                obtain ⟨mx, hmx⟩ : ∃ mx, xa + ya = mx := ⟨_, rfl⟩
                obtain ⟨my, hmy⟩ : ∃ my, xb + yb = my := ⟨_, rfl⟩
                have HMS := Lib.hid (show S mx ∧ S my by unfold S at *; omega)
                rw [hmx, hmy] at hhalf hloc
                have hsj : IntKind.i64.wrap ((j : Int) + 1) = (j : Int) + 1 := wrap_i64' (by omega) (by omega)
                have hsn : IntKind.i64.wrap ((N : Int) - 1) = (N : Int) - 1 := wrap_i64' (by omega) (by omega)
                have hw2 : ∀ {w2 : World}, Below wr.heap.size wr w2 → Wts w2 := fun h => hwW (hb.trans (h.mono hb.size))
                have hrM2 := hrM.next hb
                have hiN : i < N := hgi
                have hjN : j < N := by omega
                clear hX hY hXs hYs ex1 ex2 ey1 ey2 hmx hmy
                by_cases e1 : i = j + 1
                · have d1 : ((i : Int) == (j : Int) + 1) = true := by rw [beq_iff_eq]; omega
                  have HLM := Lib.hid (show locP M ⟨mx, my⟩ = 0 by rw [hloc, if_pos (by unfold nbr; simp [e1])])
                  have hwant : ((0 : Int) != 0) = false := rfl
                  clear hloc e1
                  go_wp2
                  refine dir_plain (by kernel_rfl) 13 [[], [], [], [(70, 1), (71, 2)], [(72, 3)], [], [], [(74, 5), (75, 6)], [(76, 7)], [(73, 4), (77, 8)], [(69, 0), (78, 9)], [], [(79, 10), (80, 11)]] [(69, 0), (70, 1), (71, 2), (72, 3), (73, 4), (74, 5), (75, 6), (76, 7), (77, 8), (78, 9), (79, 10), (80, 11), (81, 12)] [
                      (fun v _ => v = .slice (some ⟨g, 0, none⟩) N c1),
                      (fun v _ => v = .slice (some ⟨g, 0, none⟩) N c1),
                      (fun v _ => v = .int .i64 i),
                      (fun v _ => v = .pointer (some ⟨g, (i * 2), none⟩)),
                      (fun v _ => v = .agg #[.int .i64 X.x, .int .i64 X.y]),
                      (fun v _ => v = .slice (some ⟨g, 0, none⟩) N c1),
                      (fun v _ => v = .int .i64 j),
                      (fun v _ => v = .pointer (some ⟨g, (j * 2), none⟩)),
                      (fun v _ => v = .agg #[.int .i64 Y.x, .int .i64 Y.y]),
                      (fun v _ => v = .agg #[.int .i64 mx, .int .i64 my]),
                      (fun v _ => v = .int .i64 0),
                      (fun v _ => v = .int .i64 0),
                      (fun v _ => v = .bool false)
                    ] (by kernel_rfl) (by kernel_rfl) (by kernel_rfl) (by decide) ⟨dstab_eq, dstab_eq, dstab_eq, dstab_eq, dstab_eq, dstab_eq, dstab_eq, dstab_eq, dstab_eq, dstab_eq, dstab_eq, dstab_eq, dstab_eq, trivial⟩ ?steps ?fin
                  case steps =>
                    refine ⟨?_, ?_, ?_, ?_, ?_, ?_, ?_, ?_, ?_, ?_, ?_, ?_, ?_, trivial⟩
                    · intro vs g w2 hI hF hR K hK
                      simp only [Facts, fill, Act.put, z1, z2, z3, z4, z5, Nat.reduceAdd] at hF hR hK ⊢
                      go_simp
                      exact hK _ () _ hI (Below.refl _ _) rfl
                    · intro vs g w2 hI hF hR K hK
                      simp only [Facts, fill, Act.put, z1, z2, z3, z4, z5, Nat.reduceAdd] at hF hR hK ⊢
                      go_simp
                      exact hK _ () _ hI (Below.refl _ _) rfl
                    · intro vs g w2 hI hF hR K hK
                      simp only [Facts, fill, Act.put, z1, z2, z3, z4, z5, Nat.reduceAdd] at hF hR hK ⊢
                      go_simp
                      exact hK _ () _ hI (Below.refl _ _) rfl
                    · intro vs g w2 hI hF hR K hK
                      simp only [Facts, fill, Act.put, z1, z2, z3, z4, z5, Nat.reduceAdd] at hF hR hK ⊢
                      obtain ⟨r1, r2, -⟩ := hR
                      generalize vs 1 = x1, vs 2 = x2 at *
                      subst r1 r2
                      go_simp
                      exact hK _ () _ hI (Below.refl _ _) rfl
                    · intro vs g w2 hI hF hR K hK
                      simp only [Facts, fill, Act.put, z1, z2, z3, z4, z5, Nat.reduceAdd] at hF hR hK ⊢
                      obtain ⟨r3, -⟩ := hR
                      generalize vs 3 = x3 at *
                      subst r3
                      have k0 := (hI.cell (lt_of_cell p0)).trans p0
                      have k1 := (hI.cell (lt_of_cell p1)).trans p1
                      go_simp
                      exact hK _ () _ hI (Below.refl _ _) rfl
                    · intro vs g w2 hI hF hR K hK
                      simp only [Facts, fill, Act.put, z1, z2, z3, z4, z5, Nat.reduceAdd] at hF hR hK ⊢
                      go_simp
                      exact hK _ () _ hI (Below.refl _ _) rfl
                    · intro vs g w2 hI hF hR K hK
                      simp only [Facts, fill, Act.put, z1, z2, z3, z4, z5, Nat.reduceAdd] at hF hR hK ⊢
                      go_simp
                      exact hK _ () _ hI (Below.refl _ _) rfl
                    · intro vs g w2 hI hF hR K hK
                      simp only [Facts, fill, Act.put, z1, z2, z3, z4, z5, Nat.reduceAdd] at hF hR hK ⊢
                      obtain ⟨r5, r6, -⟩ := hR
                      generalize vs 5 = x5, vs 6 = x6 at *
                      subst r5 r6
                      go_simp
                      exact hK _ () _ hI (Below.refl _ _) rfl
                    · intro vs g w2 hI hF hR K hK
                      simp only [Facts, fill, Act.put, z1, z2, z3, z4, z5, Nat.reduceAdd] at hF hR hK ⊢
                      obtain ⟨r7, -⟩ := hR
                      generalize vs 7 = x7 at *
                      subst r7
                      have k0 := (hI.cell (lt_of_cell q0)).trans q0
                      have k1 := (hI.cell (lt_of_cell q1)).trans q1
                      go_simp
                      exact hK _ () _ hI (Below.refl _ _) rfl
                    · intro vs g w2 hI hF hR K hK
                      simp only [Facts, fill, Act.put, z1, z2, z3, z4, z5, Nat.reduceAdd] at hF hR hK ⊢
                      obtain ⟨r4, r8, -⟩ := hR
                      generalize vs 4 = x4, vs 8 = x8 at *
                      subst r4 r8
                      go_simp
                      refine (hhalf w2).mono ?_
                      rintro e w3 ⟨rfl, hb⟩
                      exact hK _ () _ (hI.trans (hb.mono hI.size)) hb rfl
                    · intro vs g w2 hI hF hR K hK
                      simp only [Facts, fill, Act.put, z1, z2, z3, z4, z5, Nat.reduceAdd] at hF hR hK ⊢
                      obtain ⟨r0, r9, -⟩ := hR
                      generalize vs 0 = x0, vs 9 = x9 at *
                      subst r0 r9
                      go_simp
                      refine (polyLocate_n (p := ⟨mx, my⟩) (hw2 hI) (hrM2.next hI) HML.out hl HUM.out HMS.out HLM.out).mono ?_
                      rintro e w3 ⟨rfl, hb⟩
                      exact hK _ () _ (hI.trans (hb.mono hI.size)) hb rfl
                    · intro vs g w2 hI hF hR K hK
                      simp only [Facts, fill, Act.put, z1, z2, z3, z4, z5, Nat.reduceAdd] at hF hR hK ⊢
                      go_simp
                      exact hK _ () _ hI (Below.refl _ _) rfl
                    · intro vs g w2 hI hF hR K hK
                      simp only [Facts, fill, Act.put, z1, z2, z3, z4, z5, Nat.reduceAdd] at hF hR hK ⊢
                      obtain ⟨r10, r11, -⟩ := hR
                      generalize vs 10 = x10, vs 11 = x11 at *
                      subst r10 r11
                      have hd := hwant
                      go_simp
                      exact hK _ () _ hI (Below.refl _ _) rfl
                  case fin =>
                    intro vs w2 hI hR
                    have r12 := hR 12 (by decide)
                    simp only [fill, Act.put, z1, z2, z3, z4, z5] at r12 ⊢
                    clear hR
                    generalize vs 12 = x12 at *
                    subst r12
                    refine NoPanic.normal ?_
                    go_wp2
                    go_roundw
                    case rel => exact ⟨j + 1, by go_num, hgj, hb.trans (hI.mono hb.size)⟩
                    case measure => simp [intOf]; omega
                · have d1 : ((i : Int) == (j : Int) + 1) = false := by rw [beq_eq_false_iff_ne]; omega
                  by_cases e2 : j = 0
                  · have d2 : ((j : Int) == 0) = true := by rw [beq_iff_eq]; omega
                    by_cases e3 : i = N - 1
                    · have d3 : ((i : Int) == (N : Int) - 1) = true := by rw [beq_iff_eq]; omega
                      have HLM := Lib.hid (show locP M ⟨mx, my⟩ = 0 by rw [hloc, if_pos (by unfold nbr; simp [e2, e3])])
                      have hwant : ((0 : Int) != 0) = false := rfl
                      clear hloc e1 e2 e3
                      go_wp2
                      refine dir_plain (by kernel_rfl) 13 [[], [], [], [(70, 1), (71, 2)], [(72, 3)], [], [], [(74, 5), (75, 6)], [(76, 7)], [(73, 4), (77, 8)], [(69, 0), (78, 9)], [], [(79, 10), (80, 11)]] [(69, 0), (70, 1), (71, 2), (72, 3), (73, 4), (74, 5), (75, 6), (76, 7), (77, 8), (78, 9), (79, 10), (80, 11), (81, 12)] [
                          (fun v _ => v = .slice (some ⟨g, 0, none⟩) N c1),
                          (fun v _ => v = .slice (some ⟨g, 0, none⟩) N c1),
                          (fun v _ => v = .int .i64 i),
                          (fun v _ => v = .pointer (some ⟨g, (i * 2), none⟩)),
                          (fun v _ => v = .agg #[.int .i64 X.x, .int .i64 X.y]),
                          (fun v _ => v = .slice (some ⟨g, 0, none⟩) N c1),
                          (fun v _ => v = .int .i64 j),
                          (fun v _ => v = .pointer (some ⟨g, (j * 2), none⟩)),
                          (fun v _ => v = .agg #[.int .i64 Y.x, .int .i64 Y.y]),
                          (fun v _ => v = .agg #[.int .i64 mx, .int .i64 my]),
                          (fun v _ => v = .int .i64 0),
                          (fun v _ => v = .int .i64 0),
                          (fun v _ => v = .bool false)
                        ] (by kernel_rfl) (by kernel_rfl) (by kernel_rfl) (by decide) ⟨dstab_eq, dstab_eq, dstab_eq, dstab_eq, dstab_eq, dstab_eq, dstab_eq, dstab_eq, dstab_eq, dstab_eq, dstab_eq, dstab_eq, dstab_eq, trivial⟩ ?steps ?fin
                      case steps =>
                        refine ⟨?_, ?_, ?_, ?_, ?_, ?_, ?_, ?_, ?_, ?_, ?_, ?_, ?_, trivial⟩
                        · intro vs g w2 hI hF hR K hK
                          simp only [Facts, fill, Act.put, z1, z2, z3, z4, z5, Nat.reduceAdd] at hF hR hK ⊢
                          go_simp
                          exact hK _ () _ hI (Below.refl _ _) rfl
                        · intro vs g w2 hI hF hR K hK
                          simp only [Facts, fill, Act.put, z1, z2, z3, z4, z5, Nat.reduceAdd] at hF hR hK ⊢
                          go_simp
                          exact hK _ () _ hI (Below.refl _ _) rfl
                        · intro vs g w2 hI hF hR K hK
                          simp only [Facts, fill, Act.put, z1, z2, z3, z4, z5, Nat.reduceAdd] at hF hR hK ⊢
                          go_simp
                          exact hK _ () _ hI (Below.refl _ _) rfl
                        · intro vs g w2 hI hF hR K hK
                          simp only [Facts, fill, Act.put, z1, z2, z3, z4, z5, Nat.reduceAdd] at hF hR hK ⊢
                          obtain ⟨r1, r2, -⟩ := hR
                          generalize vs 1 = x1, vs 2 = x2 at *
                          subst r1 r2
                          go_simp
                          exact hK _ () _ hI (Below.refl _ _) rfl
                        · intro vs g w2 hI hF hR K hK
                          simp only [Facts, fill, Act.put, z1, z2, z3, z4, z5, Nat.reduceAdd] at hF hR hK ⊢
                          obtain ⟨r3, -⟩ := hR
                          generalize vs 3 = x3 at *
                          subst r3
                          have k0 := (hI.cell (lt_of_cell p0)).trans p0
                          have k1 := (hI.cell (lt_of_cell p1)).trans p1
                          go_simp
                          exact hK _ () _ hI (Below.refl _ _) rfl
                        · intro vs g w2 hI hF hR K hK
                          simp only [Facts, fill, Act.put, z1, z2, z3, z4, z5, Nat.reduceAdd] at hF hR hK ⊢
                          go_simp
                          exact hK _ () _ hI (Below.refl _ _) rfl
                        · intro vs g w2 hI hF hR K hK
                          simp only [Facts, fill, Act.put, z1, z2, z3, z4, z5, Nat.reduceAdd] at hF hR hK ⊢
                          go_simp
                          exact hK _ () _ hI (Below.refl _ _) rfl
                        · intro vs g w2 hI hF hR K hK
                          simp only [Facts, fill, Act.put, z1, z2, z3, z4, z5, Nat.reduceAdd] at hF hR hK ⊢
                          obtain ⟨r5, r6, -⟩ := hR
                          generalize vs 5 = x5, vs 6 = x6 at *
                          subst r5 r6
                          go_simp
                          exact hK _ () _ hI (Below.refl _ _) rfl
                        · intro vs g w2 hI hF hR K hK
                          simp only [Facts, fill, Act.put, z1, z2, z3, z4, z5, Nat.reduceAdd] at hF hR hK ⊢
                          obtain ⟨r7, -⟩ := hR
                          generalize vs 7 = x7 at *
                          subst r7
                          have k0 := (hI.cell (lt_of_cell q0)).trans q0
                          have k1 := (hI.cell (lt_of_cell q1)).trans q1
                          go_simp
                          exact hK _ () _ hI (Below.refl _ _) rfl
                        · intro vs g w2 hI hF hR K hK
                          simp only [Facts, fill, Act.put, z1, z2, z3, z4, z5, Nat.reduceAdd] at hF hR hK ⊢
                          obtain ⟨r4, r8, -⟩ := hR
                          generalize vs 4 = x4, vs 8 = x8 at *
                          subst r4 r8
                          go_simp
                          refine (hhalf w2).mono ?_
                          rintro e w3 ⟨rfl, hb⟩
                          exact hK _ () _ (hI.trans (hb.mono hI.size)) hb rfl
                        · intro vs g w2 hI hF hR K hK
                          simp only [Facts, fill, Act.put, z1, z2, z3, z4, z5, Nat.reduceAdd] at hF hR hK ⊢
                          obtain ⟨r0, r9, -⟩ := hR
                          generalize vs 0 = x0, vs 9 = x9 at *
                          subst r0 r9
                          go_simp
                          refine (polyLocate_n (p := ⟨mx, my⟩) (hw2 hI) (hrM2.next hI) HML.out hl HUM.out HMS.out HLM.out).mono ?_
                          rintro e w3 ⟨rfl, hb⟩
                          exact hK _ () _ (hI.trans (hb.mono hI.size)) hb rfl
                        · intro vs g w2 hI hF hR K hK
                          simp only [Facts, fill, Act.put, z1, z2, z3, z4, z5, Nat.reduceAdd] at hF hR hK ⊢
                          go_simp
                          exact hK _ () _ hI (Below.refl _ _) rfl
                        · intro vs g w2 hI hF hR K hK
                          simp only [Facts, fill, Act.put, z1, z2, z3, z4, z5, Nat.reduceAdd] at hF hR hK ⊢
                          obtain ⟨r10, r11, -⟩ := hR
                          generalize vs 10 = x10, vs 11 = x11 at *
                          subst r10 r11
                          have hd := hwant
                          go_simp
                          exact hK _ () _ hI (Below.refl _ _) rfl
                      case fin =>
                        intro vs w2 hI hR
                        have r12 := hR 12 (by decide)
                        simp only [fill, Act.put, z1, z2, z3, z4, z5] at r12 ⊢
                        clear hR
                        generalize vs 12 = x12 at *
                        subst r12
                        refine NoPanic.normal ?_
                        go_wp2
                        go_roundw
                        case rel => exact ⟨j + 1, by go_num, hgj, hb.trans (hI.mono hb.size)⟩
                        case measure => simp [intOf]; omega
                    · have d3 : ((i : Int) == (N : Int) - 1) = false := by rw [beq_eq_false_iff_ne]; omega
                      have HLM := Lib.hid (show locP M ⟨mx, my⟩ = 1 by rw [hloc, if_neg (by unfold nbr; simp [e1, e3])])
                      have hwant : ((1 : Int) != 1) = false := rfl
                      clear hloc e1 e2 e3
                      go_wp2
                      refine dir_plain (by kernel_rfl) 13 [[], [], [], [(70, 1), (71, 2)], [(72, 3)], [], [], [(74, 5), (75, 6)], [(76, 7)], [(73, 4), (77, 8)], [(69, 0), (78, 9)], [], [(79, 10), (80, 11)]] [(69, 0), (70, 1), (71, 2), (72, 3), (73, 4), (74, 5), (75, 6), (76, 7), (77, 8), (78, 9), (79, 10), (80, 11), (81, 12)] [
                          (fun v _ => v = .slice (some ⟨g, 0, none⟩) N c1),
                          (fun v _ => v = .slice (some ⟨g, 0, none⟩) N c1),
                          (fun v _ => v = .int .i64 i),
                          (fun v _ => v = .pointer (some ⟨g, (i * 2), none⟩)),
                          (fun v _ => v = .agg #[.int .i64 X.x, .int .i64 X.y]),
                          (fun v _ => v = .slice (some ⟨g, 0, none⟩) N c1),
                          (fun v _ => v = .int .i64 j),
                          (fun v _ => v = .pointer (some ⟨g, (j * 2), none⟩)),
                          (fun v _ => v = .agg #[.int .i64 Y.x, .int .i64 Y.y]),
                          (fun v _ => v = .agg #[.int .i64 mx, .int .i64 my]),
                          (fun v _ => v = .int .i64 1),
                          (fun v _ => v = .int .i64 1),
                          (fun v _ => v = .bool false)
                        ] (by kernel_rfl) (by kernel_rfl) (by kernel_rfl) (by decide) ⟨dstab_eq, dstab_eq, dstab_eq, dstab_eq, dstab_eq, dstab_eq, dstab_eq, dstab_eq, dstab_eq, dstab_eq, dstab_eq, dstab_eq, dstab_eq, trivial⟩ ?steps ?fin
                      case steps =>
                        refine ⟨?_, ?_, ?_, ?_, ?_, ?_, ?_, ?_, ?_, ?_, ?_, ?_, ?_, trivial⟩
                        · intro vs g w2 hI hF hR K hK
                          simp only [Facts, fill, Act.put, z1, z2, z3, z4, z5, Nat.reduceAdd] at hF hR hK ⊢
                          go_simp
                          exact hK _ () _ hI (Below.refl _ _) rfl
                        · intro vs g w2 hI hF hR K hK
                          simp only [Facts, fill, Act.put, z1, z2, z3, z4, z5, Nat.reduceAdd] at hF hR hK ⊢
                          go_simp
                          exact hK _ () _ hI (Below.refl _ _) rfl
                        · intro vs g w2 hI hF hR K hK
                          simp only [Facts, fill, Act.put, z1, z2, z3, z4, z5, Nat.reduceAdd] at hF hR hK ⊢
                          go_simp
                          exact hK _ () _ hI (Below.refl _ _) rfl
                        · intro vs g w2 hI hF hR K hK
                          simp only [Facts, fill, Act.put, z1, z2, z3, z4, z5, Nat.reduceAdd] at hF hR hK ⊢
                          obtain ⟨r1, r2, -⟩ := hR
                          generalize vs 1 = x1, vs 2 = x2 at *
                          subst r1 r2
                          go_simp
                          exact hK _ () _ hI (Below.refl _ _) rfl
                        · intro vs g w2 hI hF hR K hK
                          simp only [Facts, fill, Act.put, z1, z2, z3, z4, z5, Nat.reduceAdd] at hF hR hK ⊢
                          obtain ⟨r3, -⟩ := hR
                          generalize vs 3 = x3 at *
                          subst r3
                          have k0 := (hI.cell (lt_of_cell p0)).trans p0
                          have k1 := (hI.cell (lt_of_cell p1)).trans p1
                          go_simp
                          exact hK _ () _ hI (Below.refl _ _) rfl
                        · intro vs g w2 hI hF hR K hK
                          simp only [Facts, fill, Act.put, z1, z2, z3, z4, z5, Nat.reduceAdd] at hF hR hK ⊢
                          go_simp
                          exact hK _ () _ hI (Below.refl _ _) rfl
                        · intro vs g w2 hI hF hR K hK
                          simp only [Facts, fill, Act.put, z1, z2, z3, z4, z5, Nat.reduceAdd] at hF hR hK ⊢
                          go_simp
                          exact hK _ () _ hI (Below.refl _ _) rfl
                        · intro vs g w2 hI hF hR K hK
                          simp only [Facts, fill, Act.put, z1, z2, z3, z4, z5, Nat.reduceAdd] at hF hR hK ⊢
                          obtain ⟨r5, r6, -⟩ := hR
                          generalize vs 5 = x5, vs 6 = x6 at *
                          subst r5 r6
                          go_simp
                          exact hK _ () _ hI (Below.refl _ _) rfl
                        · intro vs g w2 hI hF hR K hK
                          simp only [Facts, fill, Act.put, z1, z2, z3, z4, z5, Nat.reduceAdd] at hF hR hK ⊢
                          obtain ⟨r7, -⟩ := hR
                          generalize vs 7 = x7 at *
                          subst r7
                          have k0 := (hI.cell (lt_of_cell q0)).trans q0
                          have k1 := (hI.cell (lt_of_cell q1)).trans q1
                          go_simp
                          exact hK _ () _ hI (Below.refl _ _) rfl
                        · intro vs g w2 hI hF hR K hK
                          simp only [Facts, fill, Act.put, z1, z2, z3, z4, z5, Nat.reduceAdd] at hF hR hK ⊢
                          obtain ⟨r4, r8, -⟩ := hR
                          generalize vs 4 = x4, vs 8 = x8 at *
                          subst r4 r8
                          go_simp
                          refine (hhalf w2).mono ?_
                          rintro e w3 ⟨rfl, hb⟩
                          exact hK _ () _ (hI.trans (hb.mono hI.size)) hb rfl
                        · intro vs g w2 hI hF hR K hK
                          simp only [Facts, fill, Act.put, z1, z2, z3, z4, z5, Nat.reduceAdd] at hF hR hK ⊢
                          obtain ⟨r0, r9, -⟩ := hR
                          generalize vs 0 = x0, vs 9 = x9 at *
                          subst r0 r9
                          go_simp
                          refine (polyLocate_n (p := ⟨mx, my⟩) (hw2 hI) (hrM2.next hI) HML.out hl HUM.out HMS.out HLM.out).mono ?_
                          rintro e w3 ⟨rfl, hb⟩
                          exact hK _ () _ (hI.trans (hb.mono hI.size)) hb rfl
                        · intro vs g w2 hI hF hR K hK
                          simp only [Facts, fill, Act.put, z1, z2, z3, z4, z5, Nat.reduceAdd] at hF hR hK ⊢
                          go_simp
                          exact hK _ () _ hI (Below.refl _ _) rfl
                        · intro vs g w2 hI hF hR K hK
                          simp only [Facts, fill, Act.put, z1, z2, z3, z4, z5, Nat.reduceAdd] at hF hR hK ⊢
                          obtain ⟨r10, r11, -⟩ := hR
                          generalize vs 10 = x10, vs 11 = x11 at *
                          subst r10 r11
                          have hd := hwant
                          go_simp
                          exact hK _ () _ hI (Below.refl _ _) rfl
                      case fin =>
                        intro vs w2 hI hR
                        have r12 := hR 12 (by decide)
                        simp only [fill, Act.put, z1, z2, z3, z4, z5] at r12 ⊢
                        clear hR
                        generalize vs 12 = x12 at *
                        subst r12
                        refine NoPanic.normal ?_
                        go_wp2
                        go_roundw
                        case rel => exact ⟨j + 1, by go_num, hgj, hb.trans (hI.mono hb.size)⟩
                        case measure => simp [intOf]; omega
                  · have d2 : ((j : Int) == 0) = false := by rw [beq_eq_false_iff_ne]; omega
                    have HLM := Lib.hid (show locP M ⟨mx, my⟩ = 1 by rw [hloc, if_neg (by unfold nbr; simp [e1, e2])])
                    have hwant : ((1 : Int) != 1) = false := rfl
                    clear hloc e1 e2
                    go_wp2
                    refine dir_plain (by kernel_rfl) 13 [[], [], [], [(70, 1), (71, 2)], [(72, 3)], [], [], [(74, 5), (75, 6)], [(76, 7)], [(73, 4), (77, 8)], [(69, 0), (78, 9)], [], [(79, 10), (80, 11)]] [(69, 0), (70, 1), (71, 2), (72, 3), (73, 4), (74, 5), (75, 6), (76, 7), (77, 8), (78, 9), (79, 10), (80, 11), (81, 12)] [
                        (fun v _ => v = .slice (some ⟨g, 0, none⟩) N c1),
                        (fun v _ => v = .slice (some ⟨g, 0, none⟩) N c1),
                        (fun v _ => v = .int .i64 i),
                        (fun v _ => v = .pointer (some ⟨g, (i * 2), none⟩)),
                        (fun v _ => v = .agg #[.int .i64 X.x, .int .i64 X.y]),
                        (fun v _ => v = .slice (some ⟨g, 0, none⟩) N c1),
                        (fun v _ => v = .int .i64 j),
                        (fun v _ => v = .pointer (some ⟨g, (j * 2), none⟩)),
                        (fun v _ => v = .agg #[.int .i64 Y.x, .int .i64 Y.y]),
                        (fun v _ => v = .agg #[.int .i64 mx, .int .i64 my]),
                        (fun v _ => v = .int .i64 1),
                        (fun v _ => v = .int .i64 1),
                        (fun v _ => v = .bool false)
                      ] (by kernel_rfl) (by kernel_rfl) (by kernel_rfl) (by decide) ⟨dstab_eq, dstab_eq, dstab_eq, dstab_eq, dstab_eq, dstab_eq, dstab_eq, dstab_eq, dstab_eq, dstab_eq, dstab_eq, dstab_eq, dstab_eq, trivial⟩ ?steps ?fin
                    case steps =>
                      refine ⟨?_, ?_, ?_, ?_, ?_, ?_, ?_, ?_, ?_, ?_, ?_, ?_, ?_, trivial⟩
                      · intro vs g w2 hI hF hR K hK
                        simp only [Facts, fill, Act.put, z1, z2, z3, z4, z5, Nat.reduceAdd] at hF hR hK ⊢
                        go_simp
                        exact hK _ () _ hI (Below.refl _ _) rfl
                      · intro vs g w2 hI hF hR K hK
                        simp only [Facts, fill, Act.put, z1, z2, z3, z4, z5, Nat.reduceAdd] at hF hR hK ⊢
                        go_simp
                        exact hK _ () _ hI (Below.refl _ _) rfl
                      · intro vs g w2 hI hF hR K hK
                        simp only [Facts, fill, Act.put, z1, z2, z3, z4, z5, Nat.reduceAdd] at hF hR hK ⊢
                        go_simp
                        exact hK _ () _ hI (Below.refl _ _) rfl
                      · intro vs g w2 hI hF hR K hK
                        simp only [Facts, fill, Act.put, z1, z2, z3, z4, z5, Nat.reduceAdd] at hF hR hK ⊢
                        obtain ⟨r1, r2, -⟩ := hR
                        generalize vs 1 = x1, vs 2 = x2 at *
                        subst r1 r2
                        go_simp
                        exact hK _ () _ hI (Below.refl _ _) rfl
                      · intro vs g w2 hI hF hR K hK
                        simp only [Facts, fill, Act.put, z1, z2, z3, z4, z5, Nat.reduceAdd] at hF hR hK ⊢
                        obtain ⟨r3, -⟩ := hR
                        generalize vs 3 = x3 at *
                        subst r3
                        have k0 := (hI.cell (lt_of_cell p0)).trans p0
                        have k1 := (hI.cell (lt_of_cell p1)).trans p1
                        go_simp
                        exact hK _ () _ hI (Below.refl _ _) rfl
                      · intro vs g w2 hI hF hR K hK
                        simp only [Facts, fill, Act.put, z1, z2, z3, z4, z5, Nat.reduceAdd] at hF hR hK ⊢
                        go_simp
                        exact hK _ () _ hI (Below.refl _ _) rfl
                      · intro vs g w2 hI hF hR K hK
                        simp only [Facts, fill, Act.put, z1, z2, z3, z4, z5, Nat.reduceAdd] at hF hR hK ⊢
                        go_simp
                        exact hK _ () _ hI (Below.refl _ _) rfl
                      · intro vs g w2 hI hF hR K hK
                        simp only [Facts, fill, Act.put, z1, z2, z3, z4, z5, Nat.reduceAdd] at hF hR hK ⊢
                        obtain ⟨r5, r6, -⟩ := hR
                        generalize vs 5 = x5, vs 6 = x6 at *
                        subst r5 r6
                        go_simp
                        exact hK _ () _ hI (Below.refl _ _) rfl
                      · intro vs g w2 hI hF hR K hK
                        simp only [Facts, fill, Act.put, z1, z2, z3, z4, z5, Nat.reduceAdd] at hF hR hK ⊢
                        obtain ⟨r7, -⟩ := hR
                        generalize vs 7 = x7 at *
                        subst r7
                        have k0 := (hI.cell (lt_of_cell q0)).trans q0
                        have k1 := (hI.cell (lt_of_cell q1)).trans q1
                        go_simp
                        exact hK _ () _ hI (Below.refl _ _) rfl
                      · intro vs g w2 hI hF hR K hK
                        simp only [Facts, fill, Act.put, z1, z2, z3, z4, z5, Nat.reduceAdd] at hF hR hK ⊢
                        obtain ⟨r4, r8, -⟩ := hR
                        generalize vs 4 = x4, vs 8 = x8 at *
                        subst r4 r8
                        go_simp
                        refine (hhalf w2).mono ?_
                        rintro e w3 ⟨rfl, hb⟩
                        exact hK _ () _ (hI.trans (hb.mono hI.size)) hb rfl
                      · intro vs g w2 hI hF hR K hK
                        simp only [Facts, fill, Act.put, z1, z2, z3, z4, z5, Nat.reduceAdd] at hF hR hK ⊢
                        obtain ⟨r0, r9, -⟩ := hR
                        generalize vs 0 = x0, vs 9 = x9 at *
                        subst r0 r9
                        go_simp
                        refine (polyLocate_n (p := ⟨mx, my⟩) (hw2 hI) (hrM2.next hI) HML.out hl HUM.out HMS.out HLM.out).mono ?_
                        rintro e w3 ⟨rfl, hb⟩
                        exact hK _ () _ (hI.trans (hb.mono hI.size)) hb rfl
                      · intro vs g w2 hI hF hR K hK
                        simp only [Facts, fill, Act.put, z1, z2, z3, z4, z5, Nat.reduceAdd] at hF hR hK ⊢
                        go_simp
                        exact hK _ () _ hI (Below.refl _ _) rfl
                      · intro vs g w2 hI hF hR K hK
                        simp only [Facts, fill, Act.put, z1, z2, z3, z4, z5, Nat.reduceAdd] at hF hR hK ⊢
                        obtain ⟨r10, r11, -⟩ := hR
                        generalize vs 10 = x10, vs 11 = x11 at *
                        subst r10 r11
                        have hd := hwant
                        go_simp
                        exact hK _ () _ hI (Below.refl _ _) rfl
                    case fin =>
                      intro vs w2 hI hR
                      have r12 := hR 12 (by decide)
                      simp only [fill, Act.put, z1, z2, z3, z4, z5] at r12 ⊢
                      clear hR
                      generalize vs 12 = x12 at *
                      subst r12
                      refine NoPanic.normal ?_
                      go_wp2
                      go_roundw
                      case rel => exact ⟨j + 1, by go_num, hgj, hb.trans (hI.mono hb.size)⟩
                      case measure => simp [intOf]; omega
              · go_wp2
                go_roundw
                case rel => exact ⟨i + 1, by go_num, hgi, hb⟩
                case measure => simp [intOf]; omega
          · go_wp2_with (fail)
            have h5 := hb0.trans (hb.mono hb0.size)
            refine (alive14_any _ (hw.below h5)).mono ?_
            rintro e w4 ⟨rfl, hb4⟩
            go_wp2
            go_ret
            exact ⟨rfl, h5.trans (hb4.mono h5.size)⟩
end Go.Proofs.YtkiecjacbfmblaaDoor
