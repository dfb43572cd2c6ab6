/-
  Contracts of package plane: products, turns, norms. (Written by law9.py.)
-/
import Derived.Test.YthdboeegngcfeaaPlaneA
namespace Go.Proofs.Ythdboeegngcfeaa
open Go.RowKit
set_option maxRecDepth 100000
set_option linter.unusedVariables false
set_option linter.unusedSimpArgs false

def AreRel2 (w : World) (xa ya xb yb : Int) (i : Value) (wr : World) : Prop := ∃ k : Nat, i = .int .i64 k ∧ k ≤ 2 ∧ (0 < k → smallB xa ya = true) ∧ (1 < k → smallB xb yb = true) ∧ Below w.heap.size w wr
theorem gAre2 {c : Ctx} {g : Gh} {w : World} {xa ya xb yb : Int} {v : Value} {r : Bool} (hI : RInv c g w) (hv : PtsR 2 [xa, ya, xb, yb] v g w) (sxa : S xa) (sya : S ya) (sxb : S xb) (syb : S yb) (h : (smallB xa ya && smallB xb yb) = r) :
    Calls Try.prog 23 #[v] w (Gives (fun v _ _ => v = .bool r) g w) := by
  subst h
  obtain ⟨A, cap, rfl, ha⟩ := hv
  obtain ⟨b, o, rfl, _, hc⟩ := ha (by simp)
  have e0 : w.cell? ⟨b, o + 0, none⟩ = some (.int .i64 xa) := hc 0 _ rfl
  have e1 : w.cell? ⟨b, o + 1, none⟩ = some (.int .i64 ya) := hc 1 _ rfl
  have e2 : w.cell? ⟨b, o + 2, none⟩ = some (.int .i64 xb) := hc 2 _ rfl
  have e3 : w.cell? ⟨b, o + 3, none⟩ = some (.int .i64 yb) := hc 3 _ rfl
  have hb0 : Below w.heap.size w w := Below.refl _ _
  clear hc ha
  go_enter Try.func23, Try.ntmps23
  go_wp2_with (fail)
  have HE := Lib.hid ((show True ∧ True from ⟨trivial, trivial⟩))
  go_loopw [7] (fun i wr => AreRel2 w xa ya xb yb i wr) (fun i _ => 2 - (intOf i).toNat)
  case atStart => exact ⟨0, rfl, by omega, fun h => absurd h (by omega), fun h => absurd h (by omega), hb0⟩
  case round =>
    obtain ⟨k, rfl, hk, s0, s1, hbr⟩ := hrel
    have hks : k = 0 ∨ k = 1 ∨ k = 2 := by omega
    rcases hks with rfl | rfl | rfl
    · have c0 : wr.cell? ⟨b, o, none⟩ = some (.int .i64 xa) := (hbr.cell (p := ⟨b, o + 0, none⟩) (lt_of_cell e0)).trans e0
      have c1 : wr.cell? ⟨b, o + 1, none⟩ = some (.int .i64 ya) := (hbr.cell (p := ⟨b, o + 1, none⟩) (lt_of_cell e1)).trans e1
      have h1 := hbr.alloc hbr.size (.cells #[.int .i64 xa, .int .i64 ya] 23)
      rcases hs : smallB xa ya with _ | _
      · go_wp2_with (fail)
        refine (gPlSmall (hI.call h1) sxa sya hs).mono ?_
        rintro e w1 ⟨v, rfl, rfl, hb1⟩
        have h2 := h1.trans (hb1.mono h1.size)
        go_wp2
        go_ret
        exact ⟨_, rfl, by rw [hs]; simp, h2⟩
      · go_wp2_with (fail)
        refine (gPlSmall (hI.call h1) sxa sya hs).mono ?_
        rintro e w1 ⟨v, rfl, rfl, hb1⟩
        have h2 := h1.trans (hb1.mono h1.size)
        go_wp2
        go_roundw
        case rel => exact ⟨1, rfl, by omega, fun _ => hs, fun h => absurd h (by omega), h2⟩
        case measure => simp [intOf]
    · have c0 : wr.cell? ⟨b, o + 2, none⟩ = some (.int .i64 xb) := (hbr.cell (p := ⟨b, o + 2, none⟩) (lt_of_cell e2)).trans e2
      have c1 : wr.cell? ⟨b, o + 3, none⟩ = some (.int .i64 yb) := (hbr.cell (p := ⟨b, o + 3, none⟩) (lt_of_cell e3)).trans e3
      have h1 := hbr.alloc hbr.size (.cells #[.int .i64 xb, .int .i64 yb] 23)
      rcases hs : smallB xb yb with _ | _
      · go_wp2_with (fail)
        refine (gPlSmall (hI.call h1) sxb syb hs).mono ?_
        rintro e w1 ⟨v, rfl, rfl, hb1⟩
        have h2 := h1.trans (hb1.mono h1.size)
        go_wp2
        go_ret
        exact ⟨_, rfl, by rw [s0 (by omega), hs]; simp, h2⟩
      · go_wp2_with (fail)
        refine (gPlSmall (hI.call h1) sxb syb hs).mono ?_
        rintro e w1 ⟨v, rfl, rfl, hb1⟩
        have h2 := h1.trans (hb1.mono h1.size)
        go_wp2
        go_roundw
        case rel => exact ⟨2, rfl, by omega, fun _ => s0 (by omega), fun _ => hs, h2⟩
        case measure => simp [intOf]
    · go_wp2
      go_ret
      exact ⟨_, rfl, by rw [s0 (by omega), s1 (by omega)]; rfl, hbr⟩
def AreRel3 (w : World) (xa ya xb yb xc yc : Int) (i : Value) (wr : World) : Prop := ∃ k : Nat, i = .int .i64 k ∧ k ≤ 3 ∧ (0 < k → smallB xa ya = true) ∧ (1 < k → smallB xb yb = true) ∧ (2 < k → smallB xc yc = true) ∧ Below w.heap.size w wr
theorem gAre3 {c : Ctx} {g : Gh} {w : World} {xa ya xb yb xc yc : Int} {v : Value} {r : Bool} (hI : RInv c g w) (hv : PtsR 3 [xa, ya, xb, yb, xc, yc] v g w) (sxa : S xa) (sya : S ya) (sxb : S xb) (syb : S yb) (sxc : S xc) (syc : S yc) (h : (smallB xa ya && smallB xb yb && smallB xc yc) = r) :
    Calls Try.prog 23 #[v] w (Gives (fun v _ _ => v = .bool r) g w) := by
  subst h
  obtain ⟨A, cap, rfl, ha⟩ := hv
  obtain ⟨b, o, rfl, _, hc⟩ := ha (by simp)
  have e0 : w.cell? ⟨b, o + 0, none⟩ = some (.int .i64 xa) := hc 0 _ rfl
  have e1 : w.cell? ⟨b, o + 1, none⟩ = some (.int .i64 ya) := hc 1 _ rfl
  have e2 : w.cell? ⟨b, o + 2, none⟩ = some (.int .i64 xb) := hc 2 _ rfl
  have e3 : w.cell? ⟨b, o + 3, none⟩ = some (.int .i64 yb) := hc 3 _ rfl
  have e4 : w.cell? ⟨b, o + 4, none⟩ = some (.int .i64 xc) := hc 4 _ rfl
  have e5 : w.cell? ⟨b, o + 5, none⟩ = some (.int .i64 yc) := hc 5 _ rfl
  have hb0 : Below w.heap.size w w := Below.refl _ _
  clear hc ha
  go_enter Try.func23, Try.ntmps23
  go_wp2_with (fail)
  have HE := Lib.hid ((show True ∧ True from ⟨trivial, trivial⟩))
  go_loopw [7] (fun i wr => AreRel3 w xa ya xb yb xc yc i wr) (fun i _ => 3 - (intOf i).toNat)
  case atStart => exact ⟨0, rfl, by omega, fun h => absurd h (by omega), fun h => absurd h (by omega), fun h => absurd h (by omega), hb0⟩
  case round =>
    obtain ⟨k, rfl, hk, s0, s1, s2, hbr⟩ := hrel
    have hks : k = 0 ∨ k = 1 ∨ k = 2 ∨ k = 3 := by omega
    rcases hks with rfl | rfl | rfl | rfl
    · have c0 : wr.cell? ⟨b, o, none⟩ = some (.int .i64 xa) := (hbr.cell (p := ⟨b, o + 0, none⟩) (lt_of_cell e0)).trans e0
      have c1 : wr.cell? ⟨b, o + 1, none⟩ = some (.int .i64 ya) := (hbr.cell (p := ⟨b, o + 1, none⟩) (lt_of_cell e1)).trans e1
      have h1 := hbr.alloc hbr.size (.cells #[.int .i64 xa, .int .i64 ya] 23)
      rcases hs : smallB xa ya with _ | _
      · go_wp2_with (fail)
        refine (gPlSmall (hI.call h1) sxa sya hs).mono ?_
        rintro e w1 ⟨v, rfl, rfl, hb1⟩
        have h2 := h1.trans (hb1.mono h1.size)
        go_wp2
        go_ret
        exact ⟨_, rfl, by rw [hs]; simp, h2⟩
      · go_wp2_with (fail)
        refine (gPlSmall (hI.call h1) sxa sya hs).mono ?_
        rintro e w1 ⟨v, rfl, rfl, hb1⟩
        have h2 := h1.trans (hb1.mono h1.size)
        go_wp2
        go_roundw
        case rel => exact ⟨1, rfl, by omega, fun _ => hs, fun h => absurd h (by omega), fun h => absurd h (by omega), h2⟩
        case measure => simp [intOf]
    · have c0 : wr.cell? ⟨b, o + 2, none⟩ = some (.int .i64 xb) := (hbr.cell (p := ⟨b, o + 2, none⟩) (lt_of_cell e2)).trans e2
      have c1 : wr.cell? ⟨b, o + 3, none⟩ = some (.int .i64 yb) := (hbr.cell (p := ⟨b, o + 3, none⟩) (lt_of_cell e3)).trans e3
      have h1 := hbr.alloc hbr.size (.cells #[.int .i64 xb, .int .i64 yb] 23)
      rcases hs : smallB xb yb with _ | _
      · go_wp2_with (fail)
        refine (gPlSmall (hI.call h1) sxb syb hs).mono ?_
        rintro e w1 ⟨v, rfl, rfl, hb1⟩
        have h2 := h1.trans (hb1.mono h1.size)
        go_wp2
        go_ret
        exact ⟨_, rfl, by rw [s0 (by omega), hs]; simp, h2⟩
      · go_wp2_with (fail)
        refine (gPlSmall (hI.call h1) sxb syb hs).mono ?_
        rintro e w1 ⟨v, rfl, rfl, hb1⟩
        have h2 := h1.trans (hb1.mono h1.size)
        go_wp2
        go_roundw
        case rel => exact ⟨2, rfl, by omega, fun _ => s0 (by omega), fun _ => hs, fun h => absurd h (by omega), h2⟩
        case measure => simp [intOf]
    · have c0 : wr.cell? ⟨b, o + 4, none⟩ = some (.int .i64 xc) := (hbr.cell (p := ⟨b, o + 4, none⟩) (lt_of_cell e4)).trans e4
      have c1 : wr.cell? ⟨b, o + 5, none⟩ = some (.int .i64 yc) := (hbr.cell (p := ⟨b, o + 5, none⟩) (lt_of_cell e5)).trans e5
      have h1 := hbr.alloc hbr.size (.cells #[.int .i64 xc, .int .i64 yc] 23)
      rcases hs : smallB xc yc with _ | _
      · go_wp2_with (fail)
        refine (gPlSmall (hI.call h1) sxc syc hs).mono ?_
        rintro e w1 ⟨v, rfl, rfl, hb1⟩
        have h2 := h1.trans (hb1.mono h1.size)
        go_wp2
        go_ret
        exact ⟨_, rfl, by rw [s0 (by omega), s1 (by omega), hs]; simp, h2⟩
      · go_wp2_with (fail)
        refine (gPlSmall (hI.call h1) sxc syc hs).mono ?_
        rintro e w1 ⟨v, rfl, rfl, hb1⟩
        have h2 := h1.trans (hb1.mono h1.size)
        go_wp2
        go_roundw
        case rel => exact ⟨3, rfl, by omega, fun _ => s0 (by omega), fun _ => s1 (by omega), fun _ => hs, h2⟩
        case measure => simp [intOf]
    · go_wp2
      go_ret
      exact ⟨_, rfl, by rw [s0 (by omega), s1 (by omega), s2 (by omega)]; rfl, hbr⟩
theorem gConj {c : Ctx} {g : Gh} {w : World} {x y u v N M : Int} {p q : Value} (hI : RInv c g w) (h1 : CxI x y p g w) (h2 : CxI u v q g w) (k1 : Bd N x) (k2 : Bd N y) (k3 : Bd M u) (k4 : Bd M v) (hN : N * M + N * M ≤ 9007199254740992) :
    Calls Try.prog 24 #[p, q] w (Gives (CxI (x * u + y * v) (x * v - y * u)) g w) := by
  obtain ⟨a, b, rfl, fa, fb⟩ := h1
  obtain ⟨a2, b2, rfl, fc, fd⟩ := h2
  obtain ⟨zr, zi, ez, fr, fi⟩ := cxMul fa (fi_neg fb) fc fd k1 k2.neg k3 k4 hN
  have hm := fun w => run_complex_mul (P := Try.prog) w 42 a (Op.negFloat .f64 b) a2 b2 zr zi ez
  have hn : ∀ (b : Nat) (w : World), Sem.run Try.prog (Op.unary .neg (.float .f64 b)) w = .ok (.float .f64 (Op.negFloat .f64 b)) w := fun _ _ => rfl
  have r1 : x * u - -y * v = x * u + y * v := by grind
  have r2 : x * v + -y * u = x * v - y * u := by grind
  rw [r1] at fr
  rw [r2] at fi
  have HF := Lib.hid (And.intro fr fi)
  clear r1 r2 fr fi fa fb fc fd ez k1 k2 k3 k4 hN
  go_enter Try.func24, Try.ntmps24
  go_wp2
  go_ret
  exact ⟨_, rfl, ⟨_, _, rfl, HF.out.1, HF.out.2⟩, Below.refl _ _⟩
theorem gCmp0 {c : Ctx} {g : Gh} {w : World} {n : Int} {v : Value} (hI : RInv c g w) (h : FlI n v g w) : Calls Try.prog 25 #[v, .float .f64 0] w (Gives (fun v _ _ => v = .int .i64 n.sign) g w) := by
  obtain ⟨x, rfl, hx⟩ := h
  have e1 := fl_eq hx hx rfl
  have e2 := fl_eq fi_0 fi_0 rfl
  rcases Int.lt_trichotomy n 0 with h | h | h
  · have e3 := fl_lt hx fi_0 h
    have HS := Lib.hid (show n.sign = -1 from Int.sign_eq_neg_one_of_neg h)
    clear h hx
    go_enter Try.func25, Try.ntmps25
    go_wp2
    go_ret
    exact ⟨_, rfl, by rw [HS.out]; rfl, Below.refl _ _⟩
  · have e3 := fl_eq hx fi_0 h
    have HS := Lib.hid (show n.sign = 0 from by rw [h]; rfl)
    clear h hx
    go_enter Try.func25, Try.ntmps25
    go_wp2
    go_ret
    exact ⟨_, rfl, by rw [HS.out]; rfl, Below.refl _ _⟩
  · have e3 := fl_gt hx fi_0 h
    have HS := Lib.hid (show n.sign = 1 from Int.sign_eq_one_of_pos h)
    clear h hx
    go_enter Try.func25, Try.ntmps25
    go_wp2
    go_ret
    exact ⟨_, rfl, by rw [HS.out]; rfl, Below.refl _ _⟩
theorem gPlNormNo {c : Ctx} {g : Gh} {w : World} {xa ya : Int} (hI : RInv c g w) (sxa : S xa) (sya : S ya) (h : (smallB xa ya) = false) :
    Calls Try.prog 15 #[.agg #[.int .i64 xa, .int .i64 ya]] w (Gives (fun v _ _ => v = .tuple #[.float .f64 0, .int .i64 3]) g w) := by
  have hb0 : Below w.heap.size w (w.alloc (.cells #[.int .i64 xa, .int .i64 ya] 23)) := (Below.refl _ _).alloc (Nat.le_refl _) _
  go_enter Try.func15, Try.ntmps15
  go_wp2_with (fail)
  refine (gPlSmall (hI.call hb0) sxa sya h).mono ?_
  rintro e w1 ⟨v, rfl, rfl, hb1⟩
  have h1 := hb0.trans (hb1.mono hb0.size)
  go_wp2
  exact bodyPost_ret (v := .tuple #[.float .f64 0, .int .i64 3]) (by simp [results, Try.results15, go_sem, *]) rfl ⟨_, rfl, rfl, h1⟩
theorem gPlNorm {c : Ctx} {g : Gh} {w : World} {xa ya : Int} (hI : RInv c g w) (ha : smallB xa ya = true) :
    Calls Try.prog 15 #[.agg #[.int .i64 xa, .int .i64 ya]] w (Gives (NrR (xa * xa + ya * ya)) g w) := by
  have hb0 : Below w.heap.size w (w.alloc (.cells #[.int .i64 xa, .int .i64 ya] 23)) := (Below.refl _ _).alloc (Nat.le_refl _) _
  obtain ⟨bx, by_⟩ := small_bd ha
  have sxa := bx.s (by decide)
  have sya := by_.s (by decide)
  have hca : (w.alloc (.cells #[.int .i64 xa, .int .i64 ya] 23)).cell? ⟨w.heap.size, 0, none⟩ = some (.int .i64 xa) := by simp [go_sem]
  have hcb : (w.alloc (.cells #[.int .i64 xa, .int .i64 ya] 23)).cell? ⟨w.heap.size, 1, none⟩ = some (.int .i64 ya) := by simp [go_sem]
  go_enter Try.func15, Try.ntmps15
  go_wp2_with (fail)
  refine (gPlSmall (hI.call hb0) sxa sya ha).mono ?_
  rintro e w1 ⟨v, rfl, rfl, hb1⟩
  have h1 := hb0.trans (hb1.mono hb0.size)
  have ca := (hb1.cell (p := ⟨w.heap.size, 0, none⟩) (lt_of_cell hca)).trans hca
  have cb := (hb1.cell (p := ⟨w.heap.size, 1, none⟩) (lt_of_cell hcb)).trans hcb
  clear hca hcb
  go_wp2_with (fail)
  refine (gPlComplex (hI.call h1) sxa sya).mono ?_
  rintro e w2 ⟨v, rfl, rfl, hb2⟩
  have h2 := h1.trans (hb2.mono h1.size)
  have fx := fiB bx (by decide)
  have fy := fiB by_ (by decide)
  go_wp2_with (fail)
  refine (gConj (hI.call h2) (cxI_mk fx fy) (cxI_mk fx fy) bx by_ bx by_ (by decide)).mono ?_
  rintro e w3 ⟨v, rfl, ⟨r, i, rfl, fr, fi⟩, hb3⟩
  have h3 := h2.trans (hb3.mono h2.size)
  have HF := Lib.hid fr
  clear fr fi fx fy
  go_wp2
  exact bodyPost_ret (v := .tuple #[.float .f64 r, .int .i64 0]) (by simp [results, Try.results15, go_sem]) rfl ⟨_, rfl, ⟨r, rfl, HF.out⟩, h3⟩
theorem gPlTurnNo {c : Ctx} {g : Gh} {w : World} {xa ya k : Int} (hI : RInv c g w) (sxa : S xa) (sya : S ya) (sk : S k) (h : (smallB xa ya) = false) :
    Calls Try.prog 18 #[.agg #[.int .i64 xa, .int .i64 ya], .int .i64 k] w (Gives (fun v _ _ => v = .tuple #[.agg #[.int .i64 0, .int .i64 0], .int .i64 3]) g w) := by
  have hb0 : Below w.heap.size w ((w.alloc (.cells #[.int .i64 xa, .int .i64 ya] 23)).alloc (.cells #[.int .i64 0, .int .i64 0] 23)) := ((Below.refl _ _).alloc (Nat.le_refl _) _).alloc (by simp) _
  have c0 : ((w.alloc (.cells #[.int .i64 xa, .int .i64 ya] 23)).alloc (.cells #[.int .i64 0, .int .i64 0] 23)).cell? ⟨w.heap.size, 0, none⟩ = some (.int .i64 xa) := by simp [go_sem]
  have c1 : ((w.alloc (.cells #[.int .i64 xa, .int .i64 ya] 23)).alloc (.cells #[.int .i64 0, .int .i64 0] 23)).cell? ⟨w.heap.size, 1, none⟩ = some (.int .i64 ya) := by simp [go_sem]
  have c2 : ((w.alloc (.cells #[.int .i64 xa, .int .i64 ya] 23)).alloc (.cells #[.int .i64 0, .int .i64 0] 23)).cell? ⟨w.heap.size + 1, 0, none⟩ = some (.int .i64 0) := by simp [go_sem]
  have c3 : ((w.alloc (.cells #[.int .i64 xa, .int .i64 ya] 23)).alloc (.cells #[.int .i64 0, .int .i64 0] 23)).cell? ⟨w.heap.size + 1, 1, none⟩ = some (.int .i64 0) := by simp [go_sem]
  have cf0 : ((w.alloc (.cells #[.int .i64 xa, .int .i64 ya] 23)).alloc (.cells #[.int .i64 0, .int .i64 0] 23)).frozen? ⟨w.heap.size + 1, 0, none⟩ = false := by simp [go_sem]
  have cf1 : ((w.alloc (.cells #[.int .i64 xa, .int .i64 ya] 23)).alloc (.cells #[.int .i64 0, .int .i64 0] 23)).frozen? ⟨w.heap.size + 1, 1, none⟩ = false := by simp [go_sem]
  go_enter Try.func18, Try.ntmps18
  go_wp2_with (fail)
  refine (gPlSmall (hI.call hb0) sxa sya h).mono ?_
  rintro e w1 ⟨v, rfl, rfl, hb1⟩
  have h1 := hb0.trans (hb1.mono hb0.size)
  have d0 := (hb1.cell (p := ⟨w.heap.size, 0, none⟩) (lt_of_cell c0)).trans c0
  have d1 := (hb1.cell (p := ⟨w.heap.size, 1, none⟩) (lt_of_cell c1)).trans c1
  have d2 := (hb1.cell (p := ⟨w.heap.size + 1, 0, none⟩) (lt_of_cell c2)).trans c2
  have d3 := (hb1.cell (p := ⟨w.heap.size + 1, 1, none⟩) (lt_of_cell c3)).trans c3
  have df0 := (hb1.frozen (p := ⟨w.heap.size + 1, 0, none⟩) (lt_of_cell c2)).trans cf0
  have df1 := (hb1.frozen (p := ⟨w.heap.size + 1, 1, none⟩) (lt_of_cell c3)).trans cf1
  clear c0 c1 c2 c3 cf0 cf1
  go_wp2
  exact bodyPost_ret (v := .tuple #[.agg #[.int .i64 0, .int .i64 0], .int .i64 3]) (by simp [results, Try.results18, go_sem, *]) rfl ⟨_, rfl, rfl, (h1.setCell (by simp) _).setCell (by simp) _⟩
theorem turn_step (j : Nat) (x y : Int) (h : j < 3) : trX (j + 1 : Nat) x y = trX j x y * 0 - trY j x y * 1 ∧ trY (j + 1 : Nat) x y = trX j x y * 1 + trY j x y * 0 := by
  have hj : j = 0 ∨ j = 1 ∨ j = 2 := by omega
  rcases hj with rfl | rfl | rfl
  · exact ⟨show -y = x * 0 - y * 1 by omega, show x = x * 1 + y * 0 by omega⟩
  · exact ⟨show -x = -y * 0 - x * 1 by omega, show -y = -y * 1 + x * 0 by omega⟩
  · exact ⟨show y = -x * 0 - -y * 1 by omega, show -x = -x * 1 + -y * 0 by omega⟩
theorem qt_emod (k : Int) : qt k = k % 4 := by
  unfold qt
  have h1 := Int.tmod_lt_of_pos k (show (0 : Int) < 4 by decide)
  have h2 := Int.lt_tmod_of_pos k (show (0 : Int) < 4 by decide)
  rw [Int.tmod_eq_emod_of_nonneg (by omega), Int.tmod_eq_emod]
  split <;> omega
theorem qt_nat {q : Nat} (h : q ≤ 3) : qt (q : Int) = q := by
  rw [qt_emod]; omega
theorem and3 {k : Int} (sk : S k) : ∃ q : Nat, bits .and .i64 k 3 = q ∧ q ≤ 3 ∧ qt k = q := by
  refine ⟨(k % 4).toNat, ?_, by omega, by rw [qt_emod]; omega⟩
  show IntKind.i64.wrap (((BitVec.ofInt 64 k) &&& (BitVec.ofInt 64 3)).toNat : Int) = _
  have e : (BitVec.ofInt 64 k) &&& (BitVec.ofInt 64 3) = BitVec.ofNat 64 (k % 4).toNat := by
    obtain ⟨x, rfl⟩ := S_word sk
    rw [BitVec.ofInt_toInt]
    have h4 : (x.toInt % 4).toNat = x.toNat % 4 := by rw [BitVec.toInt_eq_toNat_cond]; split <;> omega
    rw [h4]
    apply BitVec.eq_of_toNat_eq
    rw [BitVec.toNat_and, BitVec.toNat_ofNat, show (BitVec.ofInt 64 3).toNat = 2 ^ 2 - 1 from rfl, Nat.and_two_pow_sub_one_eq_mod]
    omega
  rw [e, BitVec.toNat_ofNat, wrap_s]
  omega
theorem gPlTurn {c : Ctx} {g : Gh} {w : World} {xa ya k : Int} (hI : RInv c g w) (sk : S k) (ha : smallB xa ya = true) :
    Calls Try.prog 18 #[.agg #[.int .i64 xa, .int .i64 ya], .int .i64 k] w (Gives (fun v _ _ => v = .tuple #[.agg #[.int .i64 (trX k xa ya), .int .i64 (trY k xa ya)], .int .i64 0]) g w) := by
  have hb0 : Below w.heap.size w ((w.alloc (.cells #[.int .i64 xa, .int .i64 ya] 23)).alloc (.cells #[.int .i64 0, .int .i64 0] 23)) := ((Below.refl _ _).alloc (Nat.le_refl _) _).alloc (by simp) _
  obtain ⟨bx, by_⟩ := small_bd ha
  have sxa := bx.s (by decide)
  have sya := by_.s (by decide)
  obtain ⟨q, hq, hq3, hqt⟩ := and3 sk
  have hX : trX k xa ya = trX q xa ya := by unfold trX; rw [qt_nat hq3, hqt]
  have hY : trY k xa ya = trY q xa ya := by unfold trY; rw [qt_nat hq3, hqt]
  rw [hX, hY]
  clear hX hY hqt sk
  have c0 : ((w.alloc (.cells #[.int .i64 xa, .int .i64 ya] 23)).alloc (.cells #[.int .i64 0, .int .i64 0] 23)).cell? ⟨w.heap.size, 0, none⟩ = some (.int .i64 xa) := by simp [go_sem]
  have c1 : ((w.alloc (.cells #[.int .i64 xa, .int .i64 ya] 23)).alloc (.cells #[.int .i64 0, .int .i64 0] 23)).cell? ⟨w.heap.size, 1, none⟩ = some (.int .i64 ya) := by simp [go_sem]
  have c2 : ((w.alloc (.cells #[.int .i64 xa, .int .i64 ya] 23)).alloc (.cells #[.int .i64 0, .int .i64 0] 23)).cell? ⟨w.heap.size + 1, 0, none⟩ = some (.int .i64 0) := by simp [go_sem]
  have c3 : ((w.alloc (.cells #[.int .i64 xa, .int .i64 ya] 23)).alloc (.cells #[.int .i64 0, .int .i64 0] 23)).cell? ⟨w.heap.size + 1, 1, none⟩ = some (.int .i64 0) := by simp [go_sem]
  have cf0 : ((w.alloc (.cells #[.int .i64 xa, .int .i64 ya] 23)).alloc (.cells #[.int .i64 0, .int .i64 0] 23)).frozen? ⟨w.heap.size + 1, 0, none⟩ = false := by simp [go_sem]
  have cf1 : ((w.alloc (.cells #[.int .i64 xa, .int .i64 ya] 23)).alloc (.cells #[.int .i64 0, .int .i64 0] 23)).frozen? ⟨w.heap.size + 1, 1, none⟩ = false := by simp [go_sem]
  go_enter Try.func18, Try.ntmps18
  go_wp2_with (fail)
  refine (gPlSmall (hI.call hb0) sxa sya ha).mono ?_
  rintro e w1 ⟨v, rfl, rfl, hb1⟩
  have h1 := hb0.trans (hb1.mono hb0.size)
  have d0 := (hb1.cell (p := ⟨w.heap.size, 0, none⟩) (lt_of_cell c0)).trans c0
  have d1 := (hb1.cell (p := ⟨w.heap.size, 1, none⟩) (lt_of_cell c1)).trans c1
  have d2 := (hb1.cell (p := ⟨w.heap.size + 1, 0, none⟩) (lt_of_cell c2)).trans c2
  have d3 := (hb1.cell (p := ⟨w.heap.size + 1, 1, none⟩) (lt_of_cell c3)).trans c3
  have df0 := (hb1.frozen (p := ⟨w.heap.size + 1, 0, none⟩) (lt_of_cell c2)).trans cf0
  have df1 := (hb1.frozen (p := ⟨w.heap.size + 1, 1, none⟩) (lt_of_cell c3)).trans cf1
  clear c0 c1 c2 c3 cf0 cf1
  go_wp2_with (fail)
  refine (gPlComplex (hI.call h1) sxa sya).mono ?_
  rintro e w2 ⟨v, rfl, rfl, hb2⟩
  have h2 := h1.trans (hb2.mono h1.size)
  have e0 := (hb2.cell (p := ⟨w.heap.size, 0, none⟩) (lt_of_cell d0)).trans d0
  have e1 := (hb2.cell (p := ⟨w.heap.size, 1, none⟩) (lt_of_cell d1)).trans d1
  have e2 := (hb2.cell (p := ⟨w.heap.size + 1, 0, none⟩) (lt_of_cell d2)).trans d2
  have e3 := (hb2.cell (p := ⟨w.heap.size + 1, 1, none⟩) (lt_of_cell d3)).trans d3
  have ef0 := (hb2.frozen (p := ⟨w.heap.size + 1, 0, none⟩) (lt_of_cell d2)).trans df0
  have ef1 := (hb2.frozen (p := ⟨w.heap.size + 1, 1, none⟩) (lt_of_cell d3)).trans df1
  clear d0 d1 d2 d3 df0 df1
  have HX := Lib.hid (fiB bx (by decide))
  have HY := Lib.hid (fiB by_ (by decide))
  go_wp2_with (fail)
  go_loopw [6, 15] (fun z i wr => ∃ (j r s : Nat), i = .int .i64 j ∧ j ≤ q ∧ z = .complex .f64 r s ∧ FI r (trX j xa ya) ∧ FI s (trY j xa ya) ∧ wr = w2) (fun _ i _ => q - (intOf i).toNat)
  case atStart => exact ⟨0, _, _, rfl, by omega, rfl, HX.out, HY.out, rfl⟩
  case round =>
    obtain ⟨j, r, s, rfl, hj, rfl, fr, fs, rfl⟩ := hrel
    by_cases hgo : j < q
    · obtain ⟨zr, zi, ez, gr, gi⟩ := cxMul fr fs fi_0 fi_1 (trX_bd bx by_) (trY_bd bx by_) (show Bd 1 0 by unfold Bd; omega) (show Bd 1 1 by unfold Bd; omega) (by decide)
      have hm := fun w => run_complex_mul (P := Try.prog) w 42 r s 0 4607182418800017408 zr zi ez
      obtain ⟨t1, t2⟩ := turn_step j xa ya (by omega)
      rw [← t1] at gr
      rw [← t2] at gi
      have HF := Lib.hid (And.intro gr gi)
      clear gr gi t1 t2 ez fr fs
      go_wp2
      go_roundw
      case rel => exact ⟨j + 1, zr, zi, by go_num, hgo, rfl, HF.out.1, HF.out.2, trivial⟩
      case measure => simp [intOf]; omega
    · obtain rfl : j = q := by omega
      go_wp2_with (fail)
      refine (gPlPoint (hI.call h2) fr fs ((trX_bd bx by_).le (by decide)) ((trY_bd bx by_).le (by decide))).mono ?_
      rintro e w3 ⟨v, rfl, rfl, hb3⟩
      have h3 := h2.trans (hb3.mono h2.size)
      have f0 := (hb3.cell (p := ⟨w.heap.size, 0, none⟩) (lt_of_cell e0)).trans e0
      have f1 := (hb3.cell (p := ⟨w.heap.size, 1, none⟩) (lt_of_cell e1)).trans e1
      have f2 := (hb3.cell (p := ⟨w.heap.size + 1, 0, none⟩) (lt_of_cell e2)).trans e2
      have f3 := (hb3.cell (p := ⟨w.heap.size + 1, 1, none⟩) (lt_of_cell e3)).trans e3
      have ff0 := (hb3.frozen (p := ⟨w.heap.size + 1, 0, none⟩) (lt_of_cell e2)).trans ef0
      have ff1 := (hb3.frozen (p := ⟨w.heap.size + 1, 1, none⟩) (lt_of_cell e3)).trans ef1
      clear e0 e1 e2 e3 ef0 ef1
      go_wp2
      exact bodyPost_ret (v := .tuple #[.agg #[.int .i64 (trX j xa ya), .int .i64 (trY j xa ya)], .int .i64 0]) (by simp [results, Try.results18, go_sem, *]) rfl ⟨_, rfl, rfl, (h3.setCell (by simp) _).setCell (by simp) _⟩
end Go.Proofs.Ythdboeegngcfeaa
