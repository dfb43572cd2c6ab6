/-
  Contracts of package plane: small points, whole parts. (Written by law9.py.)
-/
import Derived.Test.YthdboeegngcfeaaPlaneM
namespace Go.Proofs.Ythdboeegngcfeaa
open Go.RowKit
set_option maxRecDepth 100000
set_option linter.unusedVariables false
set_option linter.unusedSimpArgs false

def PtsR (n : Nat) (l : List Int) (v : Value) (g : Gh) (w : World) : Prop := ∃ A c, v = .slice A n c ∧ SlR w (Off g) .i64 A l
theorem ptsR_firm (n : Nat) (l : List Int) : Firm (PtsR n l) := fun v g w g' w' h hk => by
  obtain ⟨A, c, e, hs⟩ := h
  exact ⟨A, c, e, hs.keeps hk⟩
theorem lit_pts {c : Ctx} {g : Gh} {w : World} (hI : RInv c g w) (n : Nat) (ls : List Int) :
    PtsR n ls (.slice (some ⟨w.heap.size, 0, none⟩) n n) g (w.alloc (.cells (ls.map (Value.int .i64)).toArray 23)) := by
  refine ⟨_, _, rfl, ?_⟩
  refine SlR.off (w := w) (fun hl => ⟨w.heap.size, 0, rfl, Nat.le_refl _, fun j d hd => ?_⟩) hI
  simp [go_sem, hd]
theorem cxI_fi {x y : Int} {r i : Nat} {g : Gh} {w : World} (h : CxI x y (.complex .f64 r i) g w) : FI r x ∧ FI i y := by
  obtain ⟨r', i', e, h1, h2⟩ := h
  injection e with _ e1 e2
  rw [e1, e2]; exact ⟨h1, h2⟩
/-- Whether a coordinate is small. -/
def sm1 (x : Int) : Bool := decide (-16777216 ≤ x) && decide (x ≤ 16777216)
theorem smallB_sm1 (x y : Int) : smallB x y = (sm1 x && sm1 y) := by unfold smallB sm1; simp only [Bool.and_assoc]
theorem isSmall_any (x : Int) (w : World) : Calls Try.prog 26 #[.int .i64 x] w fun e w' => e = .returned (.bool (sm1 x)) ∧ w' = w := by
  by_cases h1 : -16777216 ≤ x
  · have d1 : decide (-16777216 ≤ x) = true := decide_eq_true h1
    by_cases h2 : x ≤ 16777216
    · have d2 : decide (x ≤ 16777216) = true := decide_eq_true h2
      have HR := Lib.hid (show sm1 x = true by unfold sm1; simp [h1, h2])
      clear h1 h2
      go_enter Try.func26, Try.ntmps26
      go_wp2
      go_ret
      exact ⟨by rw [HR.out]; rfl, rfl⟩
    · have d2 : decide (x ≤ 16777216) = false := decide_eq_false h2
      have HR := Lib.hid (show sm1 x = false by unfold sm1; simp [h1, h2])
      clear h1 h2
      go_enter Try.func26, Try.ntmps26
      go_wp2
      go_ret
      exact ⟨by rw [HR.out]; rfl, rfl⟩
  · have d1 : decide (-16777216 ≤ x) = false := decide_eq_false h1
    have HR := Lib.hid (show sm1 x = false by unfold sm1; simp [h1])
    clear h1
    go_enter Try.func26, Try.ntmps26
    go_wp2
    go_ret
    exact ⟨by rw [HR.out]; rfl, rfl⟩
theorem gPlSmall {c : Ctx} {g : Gh} {w : World} {xa ya : Int} {r : Bool} (hI : RInv c g w) (sx : S xa) (sy : S ya) (h : smallB xa ya = r) :
    Calls Try.prog 13 #[.agg #[.int .i64 xa, .int .i64 ya]] w (Gives (fun v _ _ => v = .bool r) g w) := by
  rw [smallB_sm1] at h
  subst h
  have hb0 : Below w.heap.size w (w.alloc (.cells #[.int .i64 xa, .int .i64 ya] 23)) := (Below.refl _ _).alloc (Nat.le_refl _) _
  rcases h1 : sm1 xa with _ | _
  · have i1 := fun w => (show Calls Try.prog 26 #[.int .i64 xa] w fun e w' => e = .returned (.bool false) ∧ w' = w by rw [← h1]; exact isSmall_any xa w)
    clear h1
    go_enter Try.func13, Try.ntmps13
    go_wp2_with (fail)
    refine (i1 _).mono ?_
    rintro e w' ⟨rfl, rfl⟩
    go_wp2
    go_ret
    exact ⟨_, rfl, rfl, hb0⟩
  · have i1 := fun w => (show Calls Try.prog 26 #[.int .i64 xa] w fun e w' => e = .returned (.bool true) ∧ w' = w by rw [← h1]; exact isSmall_any xa w)
    clear h1
    go_enter Try.func13, Try.ntmps13
    go_wp2_with (fail)
    refine (i1 _).mono ?_
    rintro e w' ⟨rfl, rfl⟩
    go_wp2_with (fail)
    refine (isSmall_any ya _).mono ?_
    rintro e w' ⟨rfl, rfl⟩
    rcases h2 : sm1 ya with _ | _
    · go_wp2
      go_ret
      exact ⟨_, rfl, by rw [h2]; rfl, hb0⟩
    · go_wp2
      go_ret
      exact ⟨_, rfl, by rw [h2]; rfl, hb0⟩
theorem gPlComplex {c : Ctx} {g : Gh} {w : World} {xa ya : Int} (hI : RInv c g w) (sxa : S xa) (sya : S ya) :
    Calls Try.prog 20 #[.agg #[.int .i64 xa, .int .i64 ya]] w (Gives (fun v _ _ => v = .complex .f64 (floatOfInt .f64 xa) (floatOfInt .f64 ya)) g w) := by
  go_enter Try.func20, Try.ntmps20
  go_wp2
  go_ret
  exact ⟨_, rfl, rfl, (Below.refl _ _).alloc (Nat.le_refl _) _⟩
def archEntry : Array Value → Sem Value := Extern.MathFloor.toIntegral "math.archTrunc" .zero
theorem arch_num0 {x : Nat} (h : ∀ s t, Ieee.double.read x ≠ .nan s t) : archEntry #[.float .f64 x] = pure (.float .f64 (FloatKind.f64.encode ((FloatKind.f64.decode x).integral .zero))) := by
  have e : archEntry #[.float .f64 x] = (match FloatKind.f64.decode x with
    | .nan s t => _
    | d => pure (.float .f64 (FloatKind.f64.encode (d.integral .zero)))) := rfl
  rw [e]
  rcases hd : FloatKind.f64.decode x with ⟨s, m, i⟩ | s | ⟨s, t⟩
  · rfl
  · rfl
  · exact absurd hd (h s t)
theorem arch_nan0 {x : Nat} {s : Bool} {t : Nat} (h : Ieee.double.read x = .nan s t) (w : World) :
    ∃ r n, (archEntry #[.float .f64 x]).run Try.prog w = .ok (.float .f64 r) (w.drewN n) := by
  have e : archEntry #[.float .f64 x] = (match FloatKind.f64.decode x with
    | .nan s t => if FloatKind.f64.format.quiet t = t then pure (.float .f64 x) else _
    | d => pure (.float .f64 (FloatKind.f64.encode (d.integral .zero)))) := rfl
  rw [e, show FloatKind.f64.decode x = .nan s t from h]
  dsimp only
  by_cases hq : FloatKind.f64.format.quiet t = t
  · rw [if_pos hq]; exact ⟨x, 0, rfl⟩
  · rw [if_neg hq, Sem.run_bind, run_choose_drew]
    split
    · exact ⟨_, 0, rfl⟩
    · exact ⟨_, 1, rfl⟩
theorem arch_num {x : Nat} (h : ∀ s t, Ieee.double.read x ≠ .nan s t) (w : World) :
    (callFunc 31 #[.float .f64 x]).run Try.prog w = .ok (.value (.float .f64 (FloatKind.f64.encode ((FloatKind.f64.decode x).integral .zero)))) w := by
  rw [run_callFunc_extern Try.func31 (by kernel_rfl) (by kernel_rfl) (by kernel_rfl) (e := archEntry) (by kernel_rfl), arch_num0 h]
  rfl
theorem arch_nan {x : Nat} {s : Bool} {t : Nat} (h : Ieee.double.read x = .nan s t) (w : World) :
    ∃ r n, (callFunc 31 #[.float .f64 x]).run Try.prog w = .ok (.value (.float .f64 r)) (w.drewN n) := by
  obtain ⟨r, n, e⟩ := arch_nan0 h w
  refine ⟨r, n, ?_⟩
  rw [run_callFunc_extern Try.func31 (by kernel_rfl) (by kernel_rfl) (by kernel_rfl) (e := archEntry) (by kernel_rfl), e]
  rfl
def bitsEntry : Array Value → Sem Value := Extern.MathFloatBits.float64bits
def fromEntry : Array Value → Sem Value := Extern.MathFloatBits.float64frombits
theorem bits_run (x : Nat) (w : World) : (callFunc 34 #[.float .f64 x]).run Try.prog w = .ok (.value (.int .u64 x)) w := by
  rw [run_callFunc_extern Try.func34 (by kernel_rfl) (by kernel_rfl) (by kernel_rfl) (e := bitsEntry) (by kernel_rfl)]
  rfl
theorem from_run (n : Int) (w : World) : (callFunc 33 #[.int .u64 n]).run Try.prog w = .ok (.value (.float .f64 n.toNat)) w := by
  rw [run_callFunc_extern Try.func33 (by kernel_rfl) (by kernel_rfl) (by kernel_rfl) (e := fromEntry) (by kernel_rfl)]
  rfl
theorem abs_any (x : Nat) (w : World) : Calls Try.prog 30 #[.float .f64 x] w fun e w' => e = .returned (.float .f64 (x % 2 ^ 63)) ∧ w' = w := by
  have h1 := bits_run x
  have h2 := from_run (bits .andNot .u64 (x : Int) 9223372036854775808)
  have HA := Lib.hid (abs_bits x)
  go_enter Try.func30, Try.ntmps30
  go_wp2
  go_ret
  exact ⟨by rw [HA.out]; rfl, rfl⟩
theorem trunc_num {x : Nat} (h : ∀ s t, Ieee.double.read x ≠ .nan s t) (w : World) : Calls Try.prog 29 #[.float .f64 x] w fun e w' => e = .returned (.float .f64 (FloatKind.f64.encode ((FloatKind.f64.decode x).integral .zero))) ∧ w' = w := by
  obtain ⟨r, hr⟩ : ∃ r, r = FloatKind.f64.encode ((FloatKind.f64.decode x).integral .zero) := ⟨_, rfl⟩
  have h1 := arch_num h
  rw [← hr] at h1
  have HR := Lib.hid hr
  clear hr h
  go_enter Try.func29, Try.ntmps29
  go_wp2
  go_ret
  exact ⟨by rw [HR.out]; rfl, rfl⟩
theorem trunc_nan {x : Nat} {s : Bool} {t : Nat} (h : Ieee.double.read x = .nan s t) (w : World) : Calls Try.prog 29 #[.float .f64 x] w fun e w' => ∃ r n, e = .returned (.float .f64 r) ∧ w' = w.drewN n := by
  obtain ⟨r, n, h1⟩ := arch_nan h w
  clear h
  go_enter Try.func29, Try.ntmps29
  go_wp2
  go_ret
  exact ⟨r, n, rfl, rfl⟩
/-- A whole number of at most 2^53. -/
theorem exactYes_any {x : Nat} {n : Int} (h : FI x n) (hb : Bd 9007199254740992 n) (w : World) : Calls Try.prog 27 #[.float .f64 x] w fun e w' => e = .returned (.bool true) ∧ w' = w := by
  have hn : ∀ s t, Ieee.double.read x ≠ .nan s t := by
    obtain ⟨s, m, i, e, _⟩ := h
    intro s' t e'
    rw [e] at e'
    exact absurd e' (by simp)
  have ht := trunc_num hn
  have h1 := fl_eq (fi_trunc h hb) h rfl
  generalize FloatKind.f64.encode ((FloatKind.f64.decode x).integral .zero) = r at *
  have h2 : FloatKind.f64.format.order (x % 2 ^ 63) 4845873199050653696 = some .lt ∨ FloatKind.f64.format.order (x % 2 ^ 63) 4845873199050653696 = some .eq := by
    rcases Int.lt_trichotomy (n.natAbs : Int) 9007199254740992 with h2 | h2 | h2
    · exact .inl (fl_lt (fi_abs h) fi_hi h2)
    · exact .inr (fl_eq (fi_abs h) fi_hi h2)
    · unfold Bd at hb; omega
  have ha := abs_any x
  generalize x % 2 ^ 63 = y at *
  clear h hb hn
  rcases h2 with h2 | h2
  · go_enter Try.func27, Try.ntmps27
    go_wp2_with (fail)
    refine (ht _).mono ?_
    rintro e w' ⟨rfl, rfl⟩
    go_wp2_with (fail)
    refine (ha _).mono ?_
    rintro e w' ⟨rfl, rfl⟩
    go_wp2
    go_ret
    exact ⟨rfl, rfl⟩
  · go_enter Try.func27, Try.ntmps27
    go_wp2_with (fail)
    refine (ht _).mono ?_
    rintro e w' ⟨rfl, rfl⟩
    go_wp2_with (fail)
    refine (ha _).mono ?_
    rintro e w' ⟨rfl, rfl⟩
    go_wp2
    go_ret
    exact ⟨rfl, rfl⟩
theorem exactNo_any {x : Nat} (h : ¬ WholeW x) (w : World) : Calls Try.prog 27 #[.float .f64 x] w fun e w' => e = .returned (.bool false) ∧ ∃ n, w' = w.drewN n := by
  by_cases hn : ∃ s t, Ieee.double.read x = .nan s t
  · obtain ⟨s, t, hn⟩ := hn
    have ht := fun w => trunc_nan hn w
    have ho := fun r => (show (FloatKind.f64.format.order r x == some .eq) = false by rw [ord_nan r hn]; rfl)
    clear h hn
    go_enter Try.func27, Try.ntmps27
    go_wp2_with (fail)
    refine (ht _).mono ?_
    rintro e w' ⟨r, n, rfl, rfl⟩
    have ho := ho r
    go_wp2
    go_ret
    exact ⟨rfl, n, rfl⟩
  · have hn : ∀ s t, Ieee.double.read x ≠ .nan s t := fun s t e => hn ⟨s, t, e⟩
    have ht := trunc_num hn
    have h1 := trunc_no h hn
    generalize FloatKind.f64.encode ((FloatKind.f64.decode x).integral .zero) = r at *
    have ha := abs_any x
    generalize x % 2 ^ 63 = y at *
    clear h hn
    by_cases h2 : FloatKind.f64.format.order r x = some .eq
    · rcases h1 with h1 | h1
      · exact absurd h2 h1
      · go_enter Try.func27, Try.ntmps27
        go_wp2_with (fail)
        refine (ht _).mono ?_
        rintro e w' ⟨rfl, rfl⟩
        go_wp2_with (fail)
        refine (ha _).mono ?_
        rintro e w' ⟨rfl, rfl⟩
        go_wp2
        go_ret
        exact ⟨rfl, 0, rfl⟩
    · have h2 : (FloatKind.f64.format.order r x == some .eq) = false := by rw [beq_eq_false_iff_ne]; exact h2
      clear h1
      go_enter Try.func27, Try.ntmps27
      go_wp2_with (fail)
      refine (ht _).mono ?_
      rintro e w' ⟨rfl, rfl⟩
      go_wp2
      go_ret
      exact ⟨rfl, 0, rfl⟩
theorem gPlPoint {c : Ctx} {g : Gh} {w : World} {a b : Nat} {n m : Int} (hI : RInv c g w) (ha : FI a n) (hb : FI b m) (kn : Bd 9007199254740992 n) (km : Bd 9007199254740992 m) :
    Calls Try.prog 21 #[.complex .f64 a b] w (Gives (fun v _ _ => v = .tuple #[.agg #[.int .i64 n, .int .i64 m], .int .i64 0]) g w) := by
  have i1 := exactYes_any ha kn
  have i2 := exactYes_any hb km
  have c1 := fun w => run_convert_float_int (P := Try.prog) w 33 2 .f64 .i64 a n (by kernel_rfl) (by kernel_rfl) (fi_toI ha (by unfold Bd at kn; omega) (by unfold Bd at kn; omega))
  have c2 := fun w => run_convert_float_int (P := Try.prog) w 33 2 .f64 .i64 b m (by kernel_rfl) (by kernel_rfl) (fi_toI hb (by unfold Bd at km; omega) (by unfold Bd at km; omega))
  have hb0 : Below w.heap.size w (w.alloc (.cells #[.int .i64 0, .int .i64 0] 23)) := (Below.refl _ _).alloc (Nat.le_refl _) _
  clear ha hb kn km
  go_enter Try.func21, Try.ntmps21
  go_wp2_with (fail)
  refine (i1 _).mono ?_
  rintro e w' ⟨rfl, rfl⟩
  go_wp2_with (fail)
  refine (i2 _).mono ?_
  rintro e w' ⟨rfl, rfl⟩
  go_wp2_with (fail)
  exact bodyPost_ret (v := .tuple #[.agg #[.int .i64 n, .int .i64 m], .int .i64 0]) (by simp [results, Try.results21, go_sem]) rfl ⟨_, rfl, rfl, (by first | exact (Below.refl _ _).alloc (Nat.le_refl _) _ | exact ((below_drewN' ((Below.refl _ _).alloc (Nat.le_refl _) _) _).setCell (Nat.le_refl _) _).setCell (Nat.le_refl _) _)⟩
theorem gPlPointNo {c : Ctx} {g : Gh} {w : World} {a b : Nat} (hI : RInv c g w) (ha : (Lit.float .f64 a).wf = true) (hb : (Lit.float .f64 b).wf = true) (h : ¬ (WholeW a ∧ WholeW b)) :
    Calls Try.prog 21 #[.complex .f64 a b] w (Gives (fun v _ _ => v = .tuple #[.agg #[.int .i64 0, .int .i64 0], .int .i64 3]) g w) := by
  clear ha hb
  have hb0 : Below w.heap.size w (w.alloc (.cells #[.int .i64 0, .int .i64 0] 23)) := (Below.refl _ _).alloc (Nat.le_refl _) _
  by_cases h1 : WholeW a
  · have i2 := exactNo_any (fun h2 => h ⟨h1, h2⟩ : ¬ WholeW b)
    obtain ⟨n, fn, kn⟩ := h1
    have i1 := exactYes_any fn kn
    clear fn kn h
    go_enter Try.func21, Try.ntmps21
    go_wp2_with (fail)
    refine (i1 _).mono ?_
    rintro e w' ⟨rfl, rfl⟩
    go_wp2_with (fail)
    refine (i2 _).mono ?_
    rintro e w' ⟨rfl, n', rfl⟩
    go_wp2_with (fail)
    exact bodyPost_ret (v := .tuple #[.agg #[.int .i64 0, .int .i64 0], .int .i64 3]) (by simp [results, Try.results21, go_sem]) rfl ⟨_, rfl, rfl, (by first | exact (Below.refl _ _).alloc (Nat.le_refl _) _ | exact ((below_drewN' ((Below.refl _ _).alloc (Nat.le_refl _) _) _).setCell (Nat.le_refl _) _).setCell (Nat.le_refl _) _)⟩
  · have i1 := exactNo_any h1
    clear h h1
    go_enter Try.func21, Try.ntmps21
    go_wp2_with (fail)
    refine (i1 _).mono ?_
    rintro e w' ⟨rfl, n', rfl⟩
    go_wp2_with (fail)
    exact bodyPost_ret (v := .tuple #[.agg #[.int .i64 0, .int .i64 0], .int .i64 3]) (by simp [results, Try.results21, go_sem]) rfl ⟨_, rfl, rfl, (by first | exact (Below.refl _ _).alloc (Nat.le_refl _) _ | exact ((below_drewN' ((Below.refl _ _).alloc (Nat.le_refl _) _) _).setCell (Nat.le_refl _) _).setCell (Nat.le_refl _) _)⟩
end Go.Proofs.Ythdboeegngcfeaa
