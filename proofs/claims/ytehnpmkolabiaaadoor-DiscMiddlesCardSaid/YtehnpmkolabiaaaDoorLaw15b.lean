/-
  Layer 15: DiscBoundary, DiscMiddles. (Written by law15b.py.)
-/
import Derived.Test.YtehnpmkolabiaaaDoorLaw15
import Derived.Test.YtehnpmkolabiaaaDoorEven
import Derived.Shelf.RegionOpenPlain
import Derived.Deep.DeepCutAuto
import Derived.Deep.CutRange
import Derived.Deep.Onto
import Derived.Deep.CutBlock
namespace Go.Proofs.YtehnpmkolabiaaaDoor
open Go.RowKit Go.Maps
set_option maxRecDepth 100000
set_option linter.unusedVariables false
set_option linter.unusedSimpArgs false

def BdRel (W : World) (i : Value) (wr : World) : Prop := ∃ k : Nat, i = .int .i64 k ∧ k ≤ 3 ∧ Below W.heap.size W wr
theorem locD3 (A B C p : Pt) : locD [A, B, C] p = sideC A B C p := rfl
set_option maxHeartbeats 1000000 in
theorem law_discBoundary (A B C p : Pt) (w : World) (hw : Wts w) (hA : S A.x ∧ S A.y) (hB : S B.x ∧ S B.y) (hC : S C.x ∧ S C.y) (hp : S p.x ∧ S p.y) :
    Calls Tryd.prog 6 #[.agg #[.int .i64 A.x, .int .i64 A.y, .int .i64 B.x, .int .i64 B.y, .int .i64 C.x, .int .i64 C.y], .agg #[.int .i64 p.x, .int .i64 p.y]] w fun e w' => e = .returned (.bool true) ∧ Below w.heap.size w w' := by
  have HSS := Lib.hid (ss3 hA hB hC)
  have HSA := Lib.hid hA
  have HSB := Lib.hid hB
  have HSC := Lib.hid hC
  have HP := Lib.hid hp
  obtain ⟨r, hr⟩ : ∃ r, validD [A, B, C] = r := ⟨_, rfl⟩
  have HR := Lib.hid hr
  obtain ⟨W, hW⟩ : ∃ W, W = (w.alloc (.cells #[.int .i64 A.x, .int .i64 A.y, .int .i64 B.x, .int .i64 B.y, .int .i64 C.x, .int .i64 C.y] 40)).alloc (.cells #[.int .i64 p.x, .int .i64 p.y] 24) := ⟨_, rfl⟩
  obtain ⟨bv, hbv⟩ : ∃ b, b = w.heap.size := ⟨_, rfl⟩
  obtain ⟨bx, hbx⟩ : ∃ b, b = w.heap.size + 1 := ⟨_, rfl⟩
  have h0 : Below w.heap.size w W := by rw [hW]; exact ((Below.refl _ _).alloc (Nat.le_refl _) _).alloc (by simp) _
  have v_0 : W.cell? ⟨bv, 0, none⟩ = some (.int .i64 A.x) := by rw [hW, hbv]; simp [go_sem]
  have v_1 : W.cell? ⟨bv, 1, none⟩ = some (.int .i64 A.y) := by rw [hW, hbv]; simp [go_sem]
  have v_2 : W.cell? ⟨bv, 2, none⟩ = some (.int .i64 B.x) := by rw [hW, hbv]; simp [go_sem]
  have v_3 : W.cell? ⟨bv, 3, none⟩ = some (.int .i64 B.y) := by rw [hW, hbv]; simp [go_sem]
  have v_4 : W.cell? ⟨bv, 4, none⟩ = some (.int .i64 C.x) := by rw [hW, hbv]; simp [go_sem]
  have v_5 : W.cell? ⟨bv, 5, none⟩ = some (.int .i64 C.y) := by rw [hW, hbv]; simp [go_sem]
  have kx0 : W.cell? ⟨bx, 0, none⟩ = some (.int .i64 p.x) := by rw [hW, hbx]; simp [go_sem]
  have kx1 : W.cell? ⟨bx, 1, none⟩ = some (.int .i64 p.y) := by rw [hW, hbx]; simp [go_sem]
  have hrow : RowR W (fun g => w.heap.size ≤ g) 2 ptC (some ⟨bv, 0, none⟩) [A, B, C] := by
    rw [hW, hbv]
    exact (row_lit (w := w) (t := 40) (C := ptC) (fun _ => rfl) [A, B, C]).next ((Below.refl _ _).alloc (Nat.le_refl _) _)
  have hwW : ∀ {w2 : World}, Below W.heap.size W w2 → Wts w2 := fun h => hw.below (h0.trans (h.mono h0.size))
  have HW := Lib.hid hW
  have Hbv := Lib.hid hbv
  have Hbx := Lib.hid hbx
  clear hr hA hB hC hp hW hbv hbx
  have hi0 : ∀ (w : World), Sem.run Tryd.prog (Instr.index 40 (.agg #[.int .i64 A.x, .int .i64 A.y, .int .i64 B.x, .int .i64 B.y, .int .i64 C.x, .int .i64 C.y]) (.int .i64 0)) w = .ok (.agg #[.int .i64 A.x, .int .i64 A.y]) w := fun _ => by kernel_rfl
  have hi1 : ∀ (w : World), Sem.run Tryd.prog (Instr.index 40 (.agg #[.int .i64 A.x, .int .i64 A.y, .int .i64 B.x, .int .i64 B.y, .int .i64 C.x, .int .i64 C.y]) (.int .i64 1)) w = .ok (.agg #[.int .i64 B.x, .int .i64 B.y]) w := fun _ => by kernel_rfl
  have hi2 : ∀ (w : World), Sem.run Tryd.prog (Instr.index 40 (.agg #[.int .i64 A.x, .int .i64 A.y, .int .i64 B.x, .int .i64 B.y, .int .i64 C.x, .int .i64 C.y]) (.int .i64 2)) w = .ok (.agg #[.int .i64 C.x, .int .i64 C.y]) w := fun _ => by kernel_rfl
  go_enter Tryd.func6, Tryd.ntmps6
  go_upto_region 1 with (fail)
  rw [← HW.out, ← Hbx.out, ← Hbv.out]
  go_wp2
  go_loopw [10] (fun i wr => BdRel W i wr) (fun i _ => 3 - (intOf i).toNat)
  case atStart => exact ⟨0, rfl, by omega, Below.refl _ _⟩
  case round =>
    obtain ⟨k, rfl, hk, hI⟩ := hrel
    have hk4 : k = 0 ∨ k = 1 ∨ k = 2 ∨ k = 3 := by omega
    clear v_0 v_1 v_2 v_3 v_4 v_5
    rcases hk4 with hk4 | hk4
    · subst hk4
      clear hk
      have hbA := hI.alloc hI.size (.cells #[.int .i64 A.x, .int .i64 A.y] 24)
      go_wp2_with (fail)
      refine (discLocate_n (l := [A, B, C]) (p := A) (hwW hbA) (hrow.next hbA) rfl HSS.out HSA.out (sideC_1 A B C)).mono ?_
      rintro e w3 ⟨rfl, hb3⟩
      have hI := hbA.trans (hb3.mono hbA.size)
      go_wp2
      go_roundw
      case rel => exact ⟨1, by go_num, by omega, hI⟩
      case measure => simp [intOf]
    · rcases hk4 with hk4 | hk4
      · subst hk4
        clear hk
        have hbA := hI.alloc hI.size (.cells #[.int .i64 B.x, .int .i64 B.y] 24)
        go_wp2_with (fail)
        refine (discLocate_n (l := [A, B, C]) (p := B) (hwW hbA) (hrow.next hbA) rfl HSS.out HSB.out (sideC_2 A B C)).mono ?_
        rintro e w3 ⟨rfl, hb3⟩
        have hI := hbA.trans (hb3.mono hbA.size)
        go_wp2
        go_roundw
        case rel => exact ⟨2, by go_num, by omega, hI⟩
        case measure => simp [intOf]
      · rcases hk4 with hk4 | hk4
        · subst hk4
          clear hk
          have hbA := hI.alloc hI.size (.cells #[.int .i64 C.x, .int .i64 C.y] 24)
          go_wp2_with (fail)
          refine (discLocate_n (l := [A, B, C]) (p := C) (hwW hbA) (hrow.next hbA) rfl HSS.out HSC.out (sideC_3 A B C)).mono ?_
          rintro e w3 ⟨rfl, hb3⟩
          have hI := hbA.trans (hb3.mono hbA.size)
          go_wp2
          go_roundw
          case rel => exact ⟨3, by go_num, by omega, hI⟩
          case measure => simp [intOf]
        · subst hk4
          have d0 := (hI.cell (p := ⟨bx, 0, none⟩) (lt_of_cell kx0)).trans kx0
          have d1 := (hI.cell (p := ⟨bx, 1, none⟩) (lt_of_cell kx1)).trans kx1
          clear d0 d1
          go_wp2_with (fail)
          refine (alive15_any _ (hwW hI)).mono ?_
          rintro e w3 ⟨rfl, hb3⟩
          have hI := hI.trans (hb3.mono hI.size)
          cases r with
          | true =>
            go_wp2_with (fail)
            refine (discValid_n (l := [A, B, C]) (hwW hI) (hrow.next hI) rfl HSS.out HR.out).mono ?_
            rintro e w4 ⟨rfl, hb4⟩
            rw [show mk true = 18446744073709551615 from rfl]
            have hI := hI.trans (hb4.mono hI.size)
            go_wp2
            go_ret
            exact ⟨rfl, h0.trans (hI.mono h0.size)⟩
          | false =>
            have HZ := Lib.hid (show locD [A, B, C] p = 0 from sideC_flat (by
              have h := HR.out
              have h2 : (true && (sgnP A B C != 0)) = false := h
              have h3 : sgnP A B C = 0 := by simpa using h2
              exact h3) p)
            go_wp2_with (fail)
            refine (discValid_n (l := [A, B, C]) (hwW hI) (hrow.next hI) rfl HSS.out HR.out).mono ?_
            rintro e w4 ⟨rfl, hb4⟩
            rw [show mk false = 0 from rfl]
            have hI := hI.trans (hb4.mono hI.size)
            have d0 := (hI.cell (p := ⟨bx, 0, none⟩) (lt_of_cell kx0)).trans kx0
            have d1 := (hI.cell (p := ⟨bx, 1, none⟩) (lt_of_cell kx1)).trans kx1
            go_wp2_with (fail)
            refine (discLocate_n (l := [A, B, C]) (p := p) (hwW hI) (hrow.next hI) rfl HSS.out HP.out HZ.out).mono ?_
            rintro e w5 ⟨rfl, hb5⟩
            have hI := hI.trans (hb5.mono hI.size)
            go_wp2
            go_ret
            exact ⟨rfl, h0.trans (hI.mono h0.size)⟩
theorem own_ptT {t : TypeId} {w : World} {base g c n : Nat} {l : List Pt} (hn : l.length = n) (h : w.ownsRow base t 2 (.slice (some ⟨g, 0, none⟩) n c) n (l.flatMap ptC)) {k : Nat} (hk : k < l.length) :
    w.cell? ⟨g, k * 2, none⟩ = some (.int .i64 (l[k]'hk).x) ∧ w.cell? ⟨g, k * 2 + 1, none⟩ = some (.int .i64 (l[k]'hk).y) ∧ w.frozen? ⟨g, k * 2, none⟩ = false ∧ w.frozen? ⟨g, k * 2 + 1, none⟩ = false := by
  have h1 := flatC_at (C := ptC) (k := 2) (fun _ => rfl) l k _ (List.getElem?_eq_getElem hk)
  exact ⟨(World.ownsRow.cellAt h (k * 2) (by omega)).trans (h1 0 (by decide)), (World.ownsRow.cellAt h (k * 2 + 1) (by omega)).trans (h1 1 (by decide)), World.ownsRow.frozenAt h _, World.ownsRow.frozenAt h _⟩
theorem own_setT {t : TypeId} {w : World} {base g c n : Nat} {l : List Pt} (h : w.ownsRow base t 2 (.slice (some ⟨g, 0, none⟩) n c) n (l.flatMap ptC)) (k : Nat) (x : Pt) :
    ((w.setCell ⟨g, k * 2, none⟩ (.int .i64 x.x)).setCell ⟨g, k * 2 + 1, none⟩ (.int .i64 x.y)).ownsRow base t 2 (.slice (some ⟨g, 0, none⟩) n c) n ((l.set k x).flatMap ptC) := by
  rw [flat_setP]
  exact (World.ownsRow.stored (World.ownsRow.stored h _ _).1 _ _).1
/-- A point with even coordinates beneath another. -/
def ev2 (p : Pt) : Pt := ⟨p.x - p.x % 2, p.y - p.y % 2⟩
def evP3 (k : Nat) (l : List Pt) : List Pt := (l.take k).map ev2 ++ l.drop k
theorem evP3_len (k : Nat) (l : List Pt) : (evP3 k l).length = l.length := by unfold evP3; simp; omega
theorem evP3_get {k : Nat} {l : List Pt} (h : k < l.length) : (evP3 k l)[k]'(by rw [evP3_len]; exact h) = l[k] := by
  unfold evP3
  rw [List.getElem_append_right (by simp; omega)]
  simp [Nat.min_eq_left (Nat.le_of_lt h)]
theorem evP3_step {k : Nat} {l : List Pt} (h : k < l.length) : (evP3 k l).set k (ev2 l[k]) = evP3 (k + 1) l := by
  unfold evP3
  rw [List.set_append, if_neg (by simp; omega), List.take_succ_eq_append_getElem h, List.map_append, List.append_assoc, show k - ((l.take k).map ev2).length = 0 by simp; omega]
  congr 1
  rw [show l.drop k = l[k] :: l.drop (k + 1) from List.drop_eq_getElem_cons h]
  rfl
theorem ev2_half (p : Pt) : ∃ a b : Int, (ev2 p).x = 2 * a ∧ (ev2 p).y = 2 * b := by
  obtain ⟨a, ha⟩ := even_sub p.x
  obtain ⟨b, hb⟩ := even_sub p.y
  exact ⟨a, b, ha, hb⟩
theorem mid_disc {A B C m : Pt} (h : validD [A, B, C] = true) {k : Nat} (hk : k < 3) (hx : 2 * m.x = (Go.Proofs.YtehnpmkolabiaaaDoor.at_ [A, B, C] k).x + (Go.Proofs.YtehnpmkolabiaaaDoor.at_ [A, B, C] (nx 3 k)).x) (hy : 2 * m.y = (Go.Proofs.YtehnpmkolabiaaaDoor.at_ [A, B, C] k).y + (Go.Proofs.YtehnpmkolabiaaaDoor.at_ [A, B, C] (nx 3 k)).y) : locD [A, B, C] m = 1 := by
  have h2 : (true && (sgnP A B C != 0)) = true := h
  have hs : sgnP A B C ≠ 0 := by simpa using h2
  have hk4 : k = 0 ∨ k = 1 ∨ k = 2 := by omega
  rcases hk4 with rfl | rfl | rfl
  · exact mid_in hs hx hy
  · show sideC A B C m = 1
    rw [sideC_rot B C A m]
    exact mid_in (by rw [sgn_cyc]; exact hs) hx hy
  · show sideC A B C m = 1
    rw [← sideC_rot A B C m]
    exact mid_in (by rw [← sgn_cyc C A B]; exact hs) hx hy
theorem tmod_3 {i : Nat} (h : i < 3) : ((i : Int) + 1).tmod 3 = (nx 3 i : Nat) := by
  have hk4 : i = 0 ∨ i = 1 ∨ i = 2 := by omega
  rcases hk4 with rfl | rfl | rfl <;> decide
theorem ev2_S {p : Pt} (h : S p.x ∧ S p.y) : S (ev2 p).x ∧ S (ev2 p).y := ⟨even_S h.1, even_S h.2⟩
theorem at3 (A B C : Pt) {Q : Pt → Prop} (hA : Q A) (hB : Q B) (hC : Q C) {k : Nat} (hk : k < 3) : Q (Go.Proofs.YtehnpmkolabiaaaDoor.at_ [A, B, C] k) := by
  have hk4 : k = 0 ∨ k = 1 ∨ k = 2 := by omega
  rcases hk4 with rfl | rfl | rfl
  · exact hA
  · exact hB
  · exact hC
set_option maxHeartbeats 1000000 in
theorem law_discMiddles (A B C : Pt) (w : World) (hw : Wts w) (hA : S A.x ∧ S A.y) (hB : S B.x ∧ S B.y) (hC : S C.x ∧ S C.y) :
    Calls Tryd.prog 7 #[.agg #[.int .i64 A.x, .int .i64 A.y, .int .i64 B.x, .int .i64 B.y, .int .i64 C.x, .int .i64 C.y]] w fun e w' => e = .returned (.bool true) ∧ Below w.heap.size w w' := by
  have HSS := Lib.hid (ss3 hA hB hC)
  obtain ⟨W, hW⟩ : ∃ W, W = w.alloc (.cells #[.int .i64 A.x, .int .i64 A.y, .int .i64 B.x, .int .i64 B.y, .int .i64 C.x, .int .i64 C.y] 40) := ⟨_, rfl⟩
  obtain ⟨bv, hbv⟩ : ∃ b, b = w.heap.size := ⟨_, rfl⟩
  have h0 : Below w.heap.size w W := by rw [hW]; exact (Below.refl _ _).alloc (Nat.le_refl _) _
  have hown : W.ownsRow w.heap.size 40 2 (.slice (some ⟨bv, 0, none⟩) 3 3) 3 ((evP3 0 [A, B, C]).flatMap ptC) := by
    rw [hW, hbv]
    exact ⟨rfl, .inr ⟨w.heap.size, 3, _, rfl, Nat.le_refl _, heap_alloc_new w _, Nat.le_refl _, by decide, rfl, rfl⟩⟩
  have hbB : w.heap.size ≤ bv := by omega
  have HW := Lib.hid hW
  have Hbv := Lib.hid hbv
  have HA := Lib.hid hA
  have HB := Lib.hid hB
  have HC := Lib.hid hC
  clear hA hB hC hW hbv
  go_enter Tryd.func7, Tryd.ntmps7
  go_upto_region 1 with (fail)
  rw [← HW.out, ← Hbv.out]
  go_upto_block 0 with (fail)
  go_cut [] from 8 to 27 (fun wx => wx.ownsRow w.heap.size 40 2 (.slice (some ⟨bv, 0, none⟩) 3 3) 3 ((evP3 3 [A, B, C]).flatMap ptC) ∧ Below w.heap.size w wx)
  case first =>
    go_wp2_with (fail)
    go_loopw [8] (fun i wr => ∃ k : Nat, i = .int .i64 k ∧ k ≤ 3 ∧ wr.ownsRow w.heap.size 40 2 (.slice (some ⟨bv, 0, none⟩) 3 3) 3 ((evP3 k [A, B, C]).flatMap ptC) ∧ Below w.heap.size w wr) (fun i _ => 3 - (intOf i).toNat)
    case atStart => exact ⟨0, rfl, Nat.zero_le _, hown, h0⟩
    case round =>
      clear hown h0
      obtain ⟨k, rfl, hk, hrow, hb⟩ := hrel
      by_cases hgo : k < 3
      · have hkl : k < [A, B, C].length := hgo
        have hkm : k < (evP3 k [A, B, C]).length := by rw [evP3_len]; exact hgo
        obtain ⟨k0, k1, f0, f1⟩ := own_ptT (evP3_len k [A, B, C]) hrow hkm
        rw [evP3_get hkl] at k0 k1
        obtain ⟨X, hX⟩ : ∃ X, X = [A, B, C][k]'hkl := ⟨_, rfl⟩
        rw [← hX] at k0 k1
        have hXs := HSS.out X (by rw [hX]; exact List.getElem_mem hkl)
        have z1 : bits .andNot .i64 X.x 1 = (ev2 X).x := andNot1 hXs.1
        have z2 : bits .andNot .i64 X.y 1 = (ev2 X).y := andNot1 hXs.2
        have HX := Lib.hid hX
        have HR := Lib.hid hrow
        have mixed : Tryd.prog.follows Departure.mixedOrders = true := by kernel_rfl
        obtain ⟨E, hE⟩ : ∃ E, ev2 X = E := ⟨_, rfl⟩
        rw [hE] at z1 z2
        have HE := Lib.hid hE
        clear hX hrow hXs hE hkm
        go_wp2_with (fail)
        go_region_o
        go_wp2
        have hrow2 := own_setT HR.out k E
        rw [show (evP3 k [A, B, C]).set k E = evP3 (k + 1) [A, B, C] by rw [← HE.out, HX.out]; exact evP3_step (by exact hgo)] at hrow2
        exact ⟨⟨k + 1, by go_num, hgo, hrow2, below_drewN' ((hb.setCell (p := ⟨bv, k * 2, none⟩) hbB _).setCell (p := ⟨bv, k * 2 + 1, none⟩) hbB _) 1⟩, by simp [intOf]; omega⟩
      · obtain rfl : k = 3 := by omega
        go_wp2
        go_meet
        exact ⟨hrow, hb⟩
  case rest =>
    obtain ⟨hm0, hb0⟩ := hcut
    clear hown h0
    have hm0 : wc.ownsRow w.heap.size 40 2 (.slice (some ⟨bv, 0, none⟩) 3 3) 3 ([ev2 A, ev2 B, ev2 C].flatMap ptC) := hm0
    have hrM : RowR wc (fun _ => True) 2 ptC (some ⟨bv, 0, none⟩) [ev2 A, ev2 B, ev2 C] := by
      obtain ⟨A1', c1', e1, _, _, h, _⟩ := own_rowR (C := ptC) (fun _ => rfl) (l := [ev2 A, ev2 B, ev2 C]) hm0
      injection e1 with e1
      subst e1
      exact h.imp fun _ _ => trivial
    have HUM := Lib.hid (show SsP [ev2 A, ev2 B, ev2 C] from ss3 (ev2_S HA.out) (ev2_S HB.out) (ev2_S HC.out))
    have HEV := Lib.hid (show ∀ i, i < 3 → ∃ a b : Int, (Go.Proofs.YtehnpmkolabiaaaDoor.at_ [ev2 A, ev2 B, ev2 C] i).x = 2 * a ∧ (Go.Proofs.YtehnpmkolabiaaaDoor.at_ [ev2 A, ev2 B, ev2 C] i).y = 2 * b from fun i hi => at3 (Q := fun p => ∃ a b : Int, p.x = 2 * a ∧ p.y = 2 * b) _ _ _ (ev2_half A) (ev2_half B) (ev2_half C) hi)
    have HMD := Lib.hid (fun (m : Pt) (k : Nat) (h : validD [ev2 A, ev2 B, ev2 C] = true) (hk : k < 3) hx hy => mid_disc (m := m) h hk hx hy)
    obtain ⟨M, hM⟩ : ∃ M, M = [ev2 A, ev2 B, ev2 C] := ⟨_, rfl⟩
    have hml : 3 = M.length := by rw [hM]; rfl
    rw [← hM] at hrM HUM HEV HMD
    have HML := Lib.hid hml
    have hwW : ∀ {w2 : World}, Below wc.heap.size wc w2 → Wts w2 := fun h => hw.below (hb0.trans (h.mono hb0.size))
    clear hM hml hm0
    cases hr : validD M with
    | false =>
      have HR := Lib.hid hr
      clear hr
      go_wp2_with (fail)
      refine (ref15Valid_any _ 3 3 M false _ _ hrM HML.out HUM.out HR.out).mono ?_
      rintro e w3 ⟨rfl, hb3⟩
      have h3 := hb0.trans (hb3.mono hb0.size)
      go_wp2_with (fail)
      refine (alive15_any _ (hw.below h3)).mono ?_
      rintro e w4 ⟨rfl, hb4⟩
      go_wp2
      go_ret
      exact ⟨rfl, h3.trans (hb4.mono h3.size)⟩
    | true =>
      have HR := Lib.hid hr
      clear hr
      go_wp2_with (fail)
      refine (ref15Valid_any _ 3 3 M true _ _ hrM HML.out HUM.out HR.out).mono ?_
      rintro e w3 ⟨rfl, hb3⟩
      go_wp2
      go_loopw [33] (fun i wr => BdRel wc i wr) (fun i _ => 3 - (intOf i).toNat)
      case atStart => exact ⟨0, rfl, Nat.zero_le _, hb3⟩
      case round =>
        clear hb3
        obtain ⟨i, rfl, hi, hb⟩ := hrel
        by_cases hgi : i < 3
        · obtain ⟨q, hq⟩ : ∃ q, nx 3 i = q := ⟨_, rfl⟩
          have hq3 : q < 3 := by rw [← hq]; exact nx_lt (by omega)
          have hr1 : ((i : Int) + 1).tmod 3 = (q : Int) := by rw [← hq]; exact tmod_3 hgi
          have hu1 : IntKind.i64.wrap ((i : Int) + 1) = (i : Int) + 1 := wrap_i64' (by omega) (by omega)
          obtain ⟨p0, p1⟩ := (hrM.next hb).pt2 (k := i) (by rw [← HML.out]; exact hgi)
          obtain ⟨q0, q1⟩ := (hrM.next hb).pt2 (k := q) (by rw [← HML.out]; exact hq3)
          have hXs := HUM.out.ss (k := i) (by rw [← HML.out]; exact hgi)
          have hYs := HUM.out.ss (k := q) (by rw [← HML.out]; exact hq3)
          obtain ⟨xa, xb, ex1, ex2⟩ := HEV.out i hgi
          obtain ⟨ya, yb, ey1, ey2⟩ := HEV.out q hq3
          have hloc := HMD.out ⟨xa + ya, xb + yb⟩ i HR.out hgi (by rw [hq]; show 2 * (xa + ya) = _; omega) (by rw [hq]; show 2 * (xb + yb) = _; omega)
          obtain ⟨X, hX⟩ : ∃ X, Go.Proofs.YtehnpmkolabiaaaDoor.at_ M i = X := ⟨_, rfl⟩
          obtain ⟨Y, hY⟩ : ∃ Y, Go.Proofs.YtehnpmkolabiaaaDoor.at_ M q = Y := ⟨_, rfl⟩
          rw [hX] at p0 p1 hXs ex1 ex2
          rw [hY] at q0 q1 hYs ey1 ey2
          rw [Nat.zero_add] at p0 p1 q0 q1
          have g1 : X.x.tdiv 2 = xa := half_even ex1
          have g2 : X.y.tdiv 2 = xb := half_even ex2
          have g3 : Y.x.tdiv 2 = ya := half_even ey1
          have g4 : Y.y.tdiv 2 = yb := half_even ey2
          have u1 : IntKind.i64.wrap xa = xa := wrap_i64' (by unfold S at hXs; omega) (by unfold S at hXs; omega)
          have u2 : IntKind.i64.wrap xb = xb := wrap_i64' (by unfold S at hXs; omega) (by unfold S at hXs; omega)
          have u3 : IntKind.i64.wrap ya = ya := wrap_i64' (by unfold S at hYs; omega) (by unfold S at hYs; omega)
          have u4 : IntKind.i64.wrap yb = yb := wrap_i64' (by unfold S at hYs; omega) (by unfold S at hYs; omega)
          obtain ⟨mx, hmx⟩ : ∃ mx, xa + ya = mx := ⟨_, rfl⟩
          obtain ⟨my, hmy⟩ : ∃ my, xb + yb = my := ⟨_, rfl⟩
          have u5 : IntKind.i64.wrap (xa + ya) = mx := by rw [hmx]; exact wrap_i64' (by unfold S at hXs hYs; omega) (by unfold S at hXs hYs; omega)
          have u6 : IntKind.i64.wrap (xb + yb) = my := by rw [hmy]; exact wrap_i64' (by unfold S at hXs hYs; omega) (by unfold S at hXs hYs; omega)
          have HMS := Lib.hid (show S mx ∧ S my by unfold S at *; omega)
          rw [hmx, hmy] at hloc
          have HLM := Lib.hid hloc
          have hbs := hb.size
          clear hX hY hXs hYs ex1 ex2 ey1 ey2 hmx hmy hloc hq
          have hbv : bv < wr.heap.size := lt_of_cell p0
          have hbA : ∀ o1 o2 : Obj, Below wc.heap.size wc ((wr.alloc o1).alloc o2).drew := fun o1 o2 => ((hb.alloc hb.size o1).alloc (by simp; omega) o2).drew
          have p0a := Lib.cell?_alloc_some (.cells #[.int .i64 0, .int .i64 0] 24) p0
          have p1a := Lib.cell?_alloc_some (.cells #[.int .i64 0, .int .i64 0] 24) p1
          have q0a := Lib.cell?_alloc_some (.cells #[.int .i64 0, .int .i64 0] 24) q0
          have q1a := Lib.cell?_alloc_some (.cells #[.int .i64 0, .int .i64 0] 24) q1
          have p0b := Lib.cell?_alloc_some (.cells #[.int .i64 0, .int .i64 0] 24) p0a
          have p1b := Lib.cell?_alloc_some (.cells #[.int .i64 0, .int .i64 0] 24) p1a
          have q0b := Lib.cell?_alloc_some (.cells #[.int .i64 0, .int .i64 0] 24) q0a
          have q1b := Lib.cell?_alloc_some (.cells #[.int .i64 0, .int .i64 0] 24) q1a
          go_wp2
          go_region
          all_goals (go_wp2_with (fail))
          all_goals refine (discLocate_n (l := M) (p := ⟨mx, my⟩) (hwW (hbA _ _)) (hrM.next (hbA _ _)) HML.out HUM.out HMS.out HLM.out).mono ?_
          all_goals rintro e w5 ⟨rfl, hb5⟩
          all_goals have hI := (hbA _ _).trans (hb5.mono (hbA _ _).size)
          all_goals go_wp2
          all_goals go_roundw
          all_goals first
            | exact ⟨i + 1, by go_num, hgi, hI⟩
            | (simp [intOf]; omega)
        · go_wp2_with (fail)
          have h5 := hb0.trans (hb.mono hb0.size)
          refine (alive15_any _ (hw.below h5)).mono ?_
          rintro e w4 ⟨rfl, hb4⟩
          go_wp2
          go_ret
          exact ⟨rfl, h5.trans (hb4.mono h5.size)⟩
end Go.Proofs.YtehnpmkolabiaaaDoor
