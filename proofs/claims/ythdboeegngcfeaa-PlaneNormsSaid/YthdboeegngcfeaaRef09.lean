/-
  The reference of layer 9.
-/
import Derived.Test.YthdboeegngcfeaaGen9
namespace Go.Proofs.Ythdboeegngcfeaa
open Go.RowKit
set_option maxRecDepth 100000
set_option linter.unusedVariables false
set_option linter.unusedSimpArgs false

/-- Both coordinates are small. -/
def smallB (x y : Int) : Bool := decide (-16777216 ≤ x) && decide (x ≤ 16777216) && decide (-16777216 ≤ y) && decide (y ≤ 16777216)
theorem small_bd {x y : Int} (h : smallB x y = true) : Bd 16777216 x ∧ Bd 16777216 y := by
  unfold smallB at h
  simp only [Bool.and_eq_true, decide_eq_true_eq] at h
  unfold Bd
  omega
theorem ref9Small_any (x y : Int) (w : World) : Calls Try.prog 10 #[.agg #[.int .i64 x, .int .i64 y]] w fun e w' => e = .returned (.bool (smallB x y)) ∧ Below w.heap.size w w' := by
  have hb0 : Below w.heap.size w (w.alloc (.cells #[.int .i64 x, .int .i64 y] 23)) := (Below.refl _ _).alloc (Nat.le_refl _) _
  by_cases h0 : -16777216 ≤ x
  · by_cases h1 : x ≤ 16777216
    · by_cases h2 : -16777216 ≤ y
      · by_cases h3 : y ≤ 16777216
        · have d0 : decide (-16777216 ≤ x) = true := decide_eq_true h0
          have d1 : decide (x ≤ 16777216) = true := decide_eq_true h1
          have d2 : decide (-16777216 ≤ y) = true := decide_eq_true h2
          have d3 : decide (y ≤ 16777216) = true := decide_eq_true h3
          have HR := Lib.hid (show smallB x y = true by unfold smallB; simp [h0, h1, h2, h3])
          clear h0 h1 h2 h3
          go_enter Try.func10, Try.ntmps10
          go_wp2
          go_ret
          exact ⟨by rw [HR.out]; rfl, hb0⟩
        · have d0 : decide (-16777216 ≤ x) = true := decide_eq_true h0
          have d1 : decide (x ≤ 16777216) = true := decide_eq_true h1
          have d2 : decide (-16777216 ≤ y) = true := decide_eq_true h2
          have d3 : decide (y ≤ 16777216) = false := decide_eq_false h3
          have HR := Lib.hid (show smallB x y = false by unfold smallB; simp [h0, h1, h2, h3])
          clear h0 h1 h2 h3
          go_enter Try.func10, Try.ntmps10
          go_wp2
          go_ret
          exact ⟨by rw [HR.out]; rfl, hb0⟩
      · have d0 : decide (-16777216 ≤ x) = true := decide_eq_true h0
        have d1 : decide (x ≤ 16777216) = true := decide_eq_true h1
        have d2 : decide (-16777216 ≤ y) = false := decide_eq_false h2
        have HR := Lib.hid (show smallB x y = false by unfold smallB; simp [h0, h1, h2])
        clear h0 h1 h2
        go_enter Try.func10, Try.ntmps10
        go_wp2
        go_ret
        exact ⟨by rw [HR.out]; rfl, hb0⟩
    · have d0 : decide (-16777216 ≤ x) = true := decide_eq_true h0
      have d1 : decide (x ≤ 16777216) = false := decide_eq_false h1
      have HR := Lib.hid (show smallB x y = false by unfold smallB; simp [h0, h1])
      clear h0 h1
      go_enter Try.func10, Try.ntmps10
      go_wp2
      go_ret
      exact ⟨by rw [HR.out]; rfl, hb0⟩
  · have d0 : decide (-16777216 ≤ x) = false := decide_eq_false h0
    have HR := Lib.hid (show smallB x y = false by unfold smallB; simp [h0])
    clear h0
    go_enter Try.func10, Try.ntmps10
    go_wp2
    go_ret
    exact ⟨by rw [HR.out]; rfl, hb0⟩
theorem gRef9Small {c : Ctx} {g : Gh} {w : World} {x y : Int} {r : Bool} (hI : RInv c g w) (h : smallB x y = r) :
    Calls Try.prog 10 #[.agg #[.int .i64 x, .int .i64 y]] w (Gives (fun v _ _ => v = .bool r) g w) := by
  rw [← h]
  refine (ref9Small_any x y w).mono ?_
  rintro e w' ⟨rfl, hb⟩
  exact ⟨_, rfl, rfl, hb⟩
/-- The orientation of three points. -/
def orS (xa ya xb yb xc yc : Int) : Int := ((xb - xa) * (yc - ya) - (yb - ya) * (xc - xa)).sign
theorem ref9Orient_any (xa ya xb yb xc yc : Int) (w : World) (bxa : Bd 16777216 xa) (bya : Bd 16777216 ya) (bxb : Bd 16777216 xb) (byb : Bd 16777216 yb) (bxc : Bd 16777216 xc) (byc : Bd 16777216 yc) : Calls Try.prog 12 #[.agg #[.int .i64 xa, .int .i64 ya], .agg #[.int .i64 xb, .int .i64 yb], .agg #[.int .i64 xc, .int .i64 yc]] w fun e w' => e = .returned (.int .i64 (orS xa ya xb yb xc yc)) ∧ Below w.heap.size w w' := by
  have e1 : IntKind.i64.wrap (xb - xa) = xb - xa := (bxb.sub bxa).wrap (by decide)
  have e2 : IntKind.i64.wrap (yc - ya) = yc - ya := (byc.sub bya).wrap (by decide)
  have e3 : IntKind.i64.wrap (yb - ya) = yb - ya := (byb.sub bya).wrap (by decide)
  have e4 : IntKind.i64.wrap (xc - xa) = xc - xa := (bxc.sub bxa).wrap (by decide)
  have e5 : IntKind.i64.wrap ((xb - xa) * (yc - ya)) = (xb - xa) * (yc - ya) := ((bxb.sub bxa).mul (byc.sub bya)).wrap (by decide)
  have e6 : IntKind.i64.wrap ((yb - ya) * (xc - xa)) = (yb - ya) * (xc - xa) := ((byb.sub bya).mul (bxc.sub bxa)).wrap (by decide)
  have hd := ((bxb.sub bxa).mul (byc.sub bya)).sub ((byb.sub bya).mul (bxc.sub bxa))
  obtain ⟨D, hD⟩ : ∃ D, D = (xb - xa) * (yc - ya) - (yb - ya) * (xc - xa) := ⟨_, rfl⟩
  rw [← hD] at hd
  have e7 : IntKind.i64.wrap ((xb - xa) * (yc - ya) - (yb - ya) * (xc - xa)) = D := by rw [hD]; rw [hD] at hd; exact hd.wrap (by decide)
  have HS := Lib.hid (show orS xa ya xb yb xc yc = D.sign by unfold orS; rw [hD])
  have hb0 : Below w.heap.size w (((w.alloc (.cells #[.int .i64 xa, .int .i64 ya] 23)).alloc (.cells #[.int .i64 xb, .int .i64 yb] 23)).alloc (.cells #[.int .i64 xc, .int .i64 yc] 23)) := (((Below.refl _ _).alloc (Nat.le_refl _) _).alloc (by simp) _).alloc (by simp; omega) _
  clear hd hD bxa bya bxb byb bxc byc
  rcases Int.lt_trichotomy D 0 with h | h | h
  · have HV := Lib.hid (show D.sign = -1 by exact Int.sign_eq_neg_one_of_neg h)
    have d1 : decide (0 < D) = false := decide_eq_false (by omega)
    have d2 : decide (D < 0) = true := decide_eq_true h
    clear h
    go_enter Try.func12, Try.ntmps12
    go_wp2
    go_ret
    exact ⟨by rw [HS.out, HV.out]; rfl, hb0⟩
  · have HV := Lib.hid (show D.sign = 0 by rw [h]; rfl)
    have d1 : decide (0 < D) = false := decide_eq_false (by omega)
    have d2 : decide (D < 0) = false := decide_eq_false (by omega)
    clear h
    go_enter Try.func12, Try.ntmps12
    go_wp2
    go_ret
    exact ⟨by rw [HS.out, HV.out]; rfl, hb0⟩
  · have HV := Lib.hid (show D.sign = 1 by exact Int.sign_eq_one_of_pos h)
    have d1 : decide (0 < D) = true := decide_eq_true h
    have d2 : decide (D < 0) = false := decide_eq_false (by omega)
    clear h
    go_enter Try.func12, Try.ntmps12
    go_wp2
    go_ret
    exact ⟨by rw [HS.out, HV.out]; rfl, hb0⟩
theorem gRef9Orient {c : Ctx} {g : Gh} {w : World} {xa ya xb yb xc yc : Int} (hI : RInv c g w) (bxa : Bd 16777216 xa) (bya : Bd 16777216 ya) (bxb : Bd 16777216 xb) (byb : Bd 16777216 yb) (bxc : Bd 16777216 xc) (byc : Bd 16777216 yc) :
    Calls Try.prog 12 #[.agg #[.int .i64 xa, .int .i64 ya], .agg #[.int .i64 xb, .int .i64 yb], .agg #[.int .i64 xc, .int .i64 yc]] w (Gives (fun v _ _ => v = .int .i64 (orS xa ya xb yb xc yc)) g w) := by
  refine (ref9Orient_any xa ya xb yb xc yc w bxa bya bxb byb bxc byc).mono ?_
  rintro e w' ⟨rfl, hb⟩
  exact ⟨_, rfl, rfl, hb⟩
theorem ref9Product_any (xa ya xb yb : Int) (w : World) (bxa : Bd 16777216 xa) (bya : Bd 16777216 ya) (bxb : Bd 16777216 xb) (byb : Bd 16777216 yb) : Calls Try.prog 17 #[.agg #[.int .i64 xa, .int .i64 ya], .agg #[.int .i64 xb, .int .i64 yb]] w fun e w' => e = .returned (.agg #[.int .i64 (xa * xb - ya * yb), .int .i64 (xa * yb + ya * xb)]) ∧ Below w.heap.size w w' := by
  have e1 : IntKind.i64.wrap (xa * xb) = xa * xb := (bxa.mul bxb).wrap (by decide)
  have e2 : IntKind.i64.wrap (ya * yb) = ya * yb := (bya.mul byb).wrap (by decide)
  have e3 : IntKind.i64.wrap (xa * yb) = xa * yb := (bxa.mul byb).wrap (by decide)
  have e4 : IntKind.i64.wrap (ya * xb) = ya * xb := (bya.mul bxb).wrap (by decide)
  have e5 : IntKind.i64.wrap (xa * xb - ya * yb) = xa * xb - ya * yb := ((bxa.mul bxb).sub (bya.mul byb)).wrap (by decide)
  have e6 : IntKind.i64.wrap (xa * yb + ya * xb) = xa * yb + ya * xb := ((bxa.mul byb).add (bya.mul bxb)).wrap (by decide)
  go_enter Try.func17, Try.ntmps17
  go_wp2
  exact bodyPost_ret (v := .agg #[.int .i64 (xa * xb - ya * yb), .int .i64 (xa * yb + ya * xb)]) (by simp [results, Try.results17, go_sem]) rfl ⟨rfl, ((((Below.refl _ _).alloc (Nat.le_refl _) _).alloc (by simp) _).alloc (by simp; omega) _)⟩
theorem gRef9Product {c : Ctx} {g : Gh} {w : World} {xa ya xb yb : Int} (hI : RInv c g w) (bxa : Bd 16777216 xa) (bya : Bd 16777216 ya) (bxb : Bd 16777216 xb) (byb : Bd 16777216 yb) :
    Calls Try.prog 17 #[.agg #[.int .i64 xa, .int .i64 ya], .agg #[.int .i64 xb, .int .i64 yb]] w (Gives (fun v _ _ => v = .agg #[.int .i64 (xa * xb - ya * yb), .int .i64 (xa * yb + ya * xb)]) g w) := by
  refine (ref9Product_any xa ya xb yb w bxa bya bxb byb).mono ?_
  rintro e w' ⟨rfl, hb⟩
  exact ⟨_, rfl, rfl, hb⟩
theorem ref9Norm_any (xa ya : Int) (w : World) (bxa : Bd 16777216 xa) (bya : Bd 16777216 ya) : Calls Try.prog 16 #[.agg #[.int .i64 xa, .int .i64 ya]] w fun e w' => e = .returned (.int .i64 (xa * xa + ya * ya)) ∧ Below w.heap.size w w' := by
  have e1 : IntKind.i64.wrap (xa * xa) = xa * xa := (bxa.mul bxa).wrap (by decide)
  have e2 : IntKind.i64.wrap (ya * ya) = ya * ya := (bya.mul bya).wrap (by decide)
  have e3 : IntKind.i64.wrap (xa * xa + ya * ya) = xa * xa + ya * ya := ((bxa.mul bxa).add (bya.mul bya)).wrap (by decide)
  go_enter Try.func16, Try.ntmps16
  go_wp2
  go_ret
  exact ⟨rfl, (Below.refl _ _).alloc (Nat.le_refl _) _⟩
theorem gRef9Norm {c : Ctx} {g : Gh} {w : World} {xa ya : Int} (hI : RInv c g w) (bxa : Bd 16777216 xa) (bya : Bd 16777216 ya) :
    Calls Try.prog 16 #[.agg #[.int .i64 xa, .int .i64 ya]] w (Gives (fun v _ _ => v = .int .i64 (xa * xa + ya * ya)) g w) := by
  refine (ref9Norm_any xa ya w bxa bya).mono ?_
  rintro e w' ⟨rfl, hb⟩
  exact ⟨_, rfl, rfl, hb⟩
/-- The quarter turns that a number means. -/
def qt (k : Int) : Int := (k.tmod 4 + 4).tmod 4
theorem qt_in (k : Int) : qt k = 0 ∨ qt k = 1 ∨ qt k = 2 ∨ qt k = 3 := by
  unfold qt
  have h1 := Int.tmod_lt_of_pos k (show (0 : Int) < 4 by decide)
  have h2 := Int.lt_tmod_of_pos k (show (0 : Int) < 4 by decide)
  rw [Int.tmod_eq_emod_of_nonneg (by omega)]
  omega
def trX (k x y : Int) : Int := if qt k = 1 then -y else if qt k = 2 then -x else if qt k = 3 then y else x
def trY (k x y : Int) : Int := if qt k = 1 then x else if qt k = 2 then -y else if qt k = 3 then -x else y
theorem ref9Turn_any (xa ya k : Int) (w : World) (sk : S k) (bxa : Bd 16777216 xa) (bya : Bd 16777216 ya) : Calls Try.prog 19 #[.agg #[.int .i64 xa, .int .i64 ya], .int .i64 k] w fun e w' => e = .returned (.agg #[.int .i64 (trX k xa ya), .int .i64 (trY k xa ya)]) ∧ Below w.heap.size w w' := by
  have h1 := Int.tmod_lt_of_pos k (show (0 : Int) < 4 by decide)
  have h2 := Int.lt_tmod_of_pos k (show (0 : Int) < 4 by decide)
  have e1 : IntKind.i64.wrap (k.tmod 4) = k.tmod 4 := Bd.wrap (n := 4) ⟨by omega, by omega⟩ (by decide)
  have e2 : IntKind.i64.wrap (k.tmod 4 + 4) = k.tmod 4 + 4 := Bd.wrap (n := 8) ⟨by omega, by omega⟩ (by decide)
  obtain ⟨q, hq⟩ : ∃ q, q = qt k := ⟨_, rfl⟩
  have e3 : IntKind.i64.wrap ((k.tmod 4 + 4).tmod 4) = q := by
    rw [hq, show (k.tmod 4 + 4).tmod 4 = qt k from rfl]
    exact Bd.wrap (n := 4) (by rcases qt_in k with h | h | h | h <;> rw [h] <;> unfold Bd <;> omega) (by decide)
  have e4 : IntKind.i64.wrap (-xa) = -xa := (bxa.neg).wrap (by decide)
  have e5 : IntKind.i64.wrap (-ya) = -ya := (bya.neg).wrap (by decide)
  have e3b : (k.tmod 4 + 4).tmod 4 = q := by rw [hq]; rfl
  have HX := Lib.hid (show trX k xa ya = if q = 1 then -ya else if q = 2 then -xa else if q = 3 then ya else xa by rw [hq]; rfl)
  have HY := Lib.hid (show trY k xa ya = if q = 1 then xa else if q = 2 then -ya else if q = 3 then -xa else ya by rw [hq]; rfl)
  have hk := qt_in k
  rw [← hq] at hk
  clear hq h1 h2
  rcases hk with rfl | rfl | rfl | rfl
  · go_enter Try.func19, Try.ntmps19
    go_wp2
    exact bodyPost_ret (v := .agg #[.int .i64 (xa), .int .i64 (ya)]) (by simp [results, Try.results19, go_sem]) rfl ⟨by rw [HX.out, HY.out]; rfl, (((Below.refl _ _).alloc (Nat.le_refl _) _).alloc (by simp) _)⟩
  · go_enter Try.func19, Try.ntmps19
    go_wp2
    exact bodyPost_ret (v := .agg #[.int .i64 (-ya), .int .i64 (xa)]) (by simp [results, Try.results19, go_sem]) rfl ⟨by rw [HX.out, HY.out]; rfl, (((Below.refl _ _).alloc (Nat.le_refl _) _).alloc (by simp) _)⟩
  · go_enter Try.func19, Try.ntmps19
    go_wp2
    exact bodyPost_ret (v := .agg #[.int .i64 (-xa), .int .i64 (-ya)]) (by simp [results, Try.results19, go_sem]) rfl ⟨by rw [HX.out, HY.out]; rfl, (((Below.refl _ _).alloc (Nat.le_refl _) _).alloc (by simp) _)⟩
  · go_enter Try.func19, Try.ntmps19
    go_wp2
    exact bodyPost_ret (v := .agg #[.int .i64 (ya), .int .i64 (-xa)]) (by simp [results, Try.results19, go_sem]) rfl ⟨by rw [HX.out, HY.out]; rfl, (((Below.refl _ _).alloc (Nat.le_refl _) _).alloc (by simp) _)⟩
theorem gRef9Turn {c : Ctx} {g : Gh} {w : World} {xa ya k : Int} (hI : RInv c g w) (sk : S k) (bxa : Bd 16777216 xa) (bya : Bd 16777216 ya) :
    Calls Try.prog 19 #[.agg #[.int .i64 xa, .int .i64 ya], .int .i64 k] w (Gives (fun v _ _ => v = .agg #[.int .i64 (trX k xa ya), .int .i64 (trY k xa ya)]) g w) := by
  refine (ref9Turn_any xa ya k w sk bxa bya).mono ?_
  rintro e w' ⟨rfl, hb⟩
  exact ⟨_, rfl, rfl, hb⟩
end Go.Proofs.Ythdboeegngcfeaa
