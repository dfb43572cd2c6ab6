/-
  Facts of values, and the contracts of the reference of layer 3 in their words.
-/
import Derived.Test.YtehnpmkolabiaaaDoorRef03c
import Derived.Test.YtehnpmkolabiaaaDoorLimbM
import Derived.Test.YtehnpmkolabiaaaDoorBox
namespace Go.Proofs.YtehnpmkolabiaaaDoor
open Go.RowKit
set_option maxRecDepth 100000
set_option linter.unusedVariables false
set_option linter.unusedSimpArgs false

/-- A vector of numbers. -/
def VecR (w : World) (T : Nat → Prop) (L : Nat) (v : Value) (x y : Int) : Prop :=
  ∃ A n c B m d, v = .agg #[.int .i64 x.sign, .slice A n c, .int .i64 y.sign, .slice B m d] ∧ NumR w T L (.agg #[.int .i64 x.sign, .slice A n c]) x ∧ NumR w T L (.agg #[.int .i64 y.sign, .slice B m d]) y
theorem VecR.next {w w' : World} {T : Nat → Prop} {L : Nat} {v : Value} {x y : Int} (h : VecR w T L v x y) (hb : Below w.heap.size w w') : VecR w' T L v x y := by
  obtain ⟨A, n, c, B, m, d, rfl, h1, h2⟩ := h
  exact ⟨A, n, c, B, m, d, rfl, h1.next hb, h2.next hb⟩
theorem VecR.imp {w : World} {T T' : Nat → Prop} {L : Nat} {v : Value} {x y : Int} (h : VecR w T L v x y) (hT : ∀ b, T b → T' b) : VecR w T' L v x y := by
  obtain ⟨A, n, c, B, m, d, rfl, h1, h2⟩ := h
  exact ⟨A, n, c, B, m, d, rfl, h1.imp hT, h2.imp hT⟩
/-- A whole number of n limbs. -/
def LimR (n : Nat) (x : Int) (v : Value) (g : Gh) (w : World) : Prop := ∃ A c, v = .slice A n c ∧ n ≤ c ∧ SlR w (Off g) .u64 A (limbs n x)
/-- The place of a limb of a whole number. -/
def LimP (n : Nat) (x : Int) (i : Nat) (v : Value) (g : Gh) (w : World) : Prop := ∃ b o, v = .pointer (some ⟨b, o, none⟩) ∧ Off g b ∧ w.cell? ⟨b, o, none⟩ = some (.int .u64 (dgt (limbs n x) i))
theorem limP_firm (n : Nat) (x : Int) (i : Nat) : Firm (LimP n x i) := fun v g w g' w' h hk => by
  obtain ⟨b, o, e, ho, hc⟩ := h
  have := hk b (World.block_lt_of_cell? w ⟨b, o, none⟩ hc) ho
  exact ⟨b, o, e, this.1, (World.cell?_of_block (a := ⟨b, o, none⟩) this.2).trans hc⟩
theorem limR_at {n : Nat} {x : Int} {A : Option Addr} {c i : Nat} {g : Gh} {w : World} (h : LimR n x (.slice A n c) g w) (hi : i < n) : ∃ b o, A = some ⟨b, o, none⟩ ∧ LimP n x i (.pointer (some ⟨b, o + i, none⟩)) g w := by
  obtain ⟨A', c', e, _, hs⟩ := h
  injection e with e1 e2 e3
  subst e1
  have hl : i < (limbs n x).length := by rw [limbs_length]; exact hi
  obtain ⟨b, o, e, hS, hc⟩ := hs (by omega)
  exact ⟨b, o, e, b, o + i, rfl, hS, by rw [dgt_lt hl]; exact hc i _ (List.getElem?_eq_getElem hl)⟩
/-- A vector of two limbs each. -/
def VecL (x y : Int) (v : Value) (g : Gh) (w : World) : Prop :=
  ∃ A c B d, v = .agg #[.slice A 2 c, .slice B 2 d] ∧ 2 ≤ c ∧ 2 ≤ d ∧ SlR w (Off g) .u64 A (limbs 2 x) ∧ SlR w (Off g) .u64 B (limbs 2 y)
/-- A number of the reference. -/
def NumG (L : Nat) (x : Int) (v : Value) (g : Gh) (w : World) : Prop := NumR w (Off g) L v x
/-- A vector of the reference. -/
def VecN (L : Nat) (x y : Int) (v : Value) (g : Gh) (w : World) : Prop := VecR w (Off g) L v x y
theorem limR_firm (n : Nat) (x : Int) : Firm (LimR n x) := fun v g w g' w' h hk => by
  obtain ⟨A, c, e, hc, hs⟩ := h
  exact ⟨A, c, e, hc, hs.keeps hk⟩
theorem vecL_firm (x y : Int) : Firm (VecL x y) := fun v g w g' w' h hk => by
  obtain ⟨A, c, B, d, e, hc, hd, h1, h2⟩ := h
  exact ⟨A, c, B, d, e, hc, hd, h1.keeps hk, h2.keeps hk⟩
theorem numG_firm (L : Nat) (x : Int) : Firm (NumG L x) := fun v g w g' w' h hk => by
  obtain ⟨A, c, ds, e, hc, hs, rest⟩ := h
  exact ⟨A, c, ds, e, hc, hs.keeps hk, rest⟩
theorem vecN_firm (L : Nat) (x y : Int) : Firm (VecN L x y) := fun v g w g' w' h hk => by
  obtain ⟨A, n, c, B, m, d, e, h1, h2⟩ := h
  exact ⟨A, n, c, B, m, d, e, numG_firm L x _ g w g' w' h1 hk, numG_firm L y _ g w g' w' h2 hk⟩
/-- The sign of a number. -/
def SignR (x : Int) (v : Value) (_g : Gh) (_w : World) : Prop := ∃ s, v = .int .i64 s ∧ s = x.sign
theorem signR_firm (x : Int) : Firm (SignR x) := fun _ _ _ _ _ h _ => h
theorem signR_open {x : Int} {v : Value} {g : Gh} {w : World} (h : SignR x v g w) : ∃ s, v = .int .i64 s ∧ s = x.sign := h
theorem numG_open {L : Nat} {x : Int} {v : Value} {g : Gh} {w : World} (h : NumG L x v g w) : ∃ s A n c, v = .agg #[.int .i64 s, .slice A n c] ∧ SignR x (.int .i64 s) g w := by
  obtain ⟨A, c, ds, e, _⟩ := h
  exact ⟨_, A, _, c, e, _, rfl, rfl⟩
theorem vecN_open {L : Nat} {x y : Int} {v : Value} {g : Gh} {w : World} (h : VecN L x y v g w) : ∃ s A n c t B m d, v = .agg #[.int .i64 s, .slice A n c, .int .i64 t, .slice B m d] := by
  obtain ⟨A, n, c, B, m, d, e, _, _⟩ := h
  exact ⟨_, A, n, c, _, B, m, d, e⟩
theorem vecL_open {x y : Int} {v : Value} {g : Gh} {w : World} (h : VecL x y v g w) : ∃ A c B d, v = .agg #[.slice A 2 c, .slice B 2 d] := by
  obtain ⟨A, c, B, d, e, _⟩ := h
  exact ⟨A, c, B, d, e⟩
theorem limR_open {n : Nat} {x : Int} {v : Value} {g : Gh} {w : World} (h : LimR n x v g w) : ∃ A c, v = .slice A n c := by
  obtain ⟨A, c, e, _⟩ := h
  exact ⟨A, c, e⟩
theorem numG_sign {L : Nat} {x s : Int} {b : Value} {g : Gh} {w : World} (h : NumG L x (.agg #[.int .i64 s, b]) g w) : SignR x (.int .i64 s) g w := by
  obtain ⟨A, c, ds, e, _⟩ := h
  injection e with e
  have e1 := congrArg (fun s : Array Value => s[0]?) e
  simp at e1
  exact ⟨_, rfl, e1⟩
theorem sign_is {x s k : Int} (h : ∃ s', Value.int .i64 s = .int .i64 s' ∧ s' = x.sign) (hx : x.sign = k) : (s == k) = true := by
  obtain ⟨s', e, rfl⟩ := h
  injection e with _ e
  subst e
  rw [beq_iff_eq]; exact hx
theorem sign_eq {x y s t : Int} {g g' : Gh} {w w' : World} (h : SignR x (.int .i64 s) g w) (k : SignR y (.int .i64 t) g' w') (e : x = y) : (s == t) = true := by
  obtain ⟨s', e1, rfl⟩ := h
  obtain ⟨t', e2, rfl⟩ := k
  injection e1 with _ e1
  injection e2 with _ e2
  subst e1 e2 e
  exact beq_self_eq_true _
theorem signR_neg {x s : Int} {g : Gh} {w : World} (h : SignR x (.int .i64 s) g w) : IntKind.i64.wrap (-s) = -s ∧ SignR (-x) (.int .i64 (-s)) g w := by
  obtain ⟨s', e1, rfl⟩ := h
  injection e1 with _ e1
  subst e1
  refine ⟨?_, _, rfl, (Int.sign_neg x).symm⟩
  rcases Int.lt_trichotomy x 0 with h | h | h
  · rw [Int.sign_eq_neg_one_of_neg h]; rfl
  · subst h; rfl
  · rw [Int.sign_eq_one_of_pos h]; rfl
theorem sign_bd' (x : Int) : -1 ≤ x.sign ∧ x.sign ≤ 1 := by
  rcases Int.lt_trichotomy x 0 with h | h | h
  · rw [Int.sign_eq_neg_one_of_neg h]; omega
  · subst h; decide
  · rw [Int.sign_eq_one_of_pos h]; omega
theorem signR_mul {x y s t : Int} {g g' : Gh} {w w' : World} (h : SignR x (.int .i64 s) g w) (k : SignR y (.int .i64 t) g' w') : IntKind.i64.wrap (s * t) = s * t ∧ SignR (x * y) (.int .i64 (s * t)) g w := by
  obtain ⟨s', e1, rfl⟩ := h
  obtain ⟨t', e2, rfl⟩ := k
  injection e1 with _ e1
  injection e2 with _ e2
  subst e1 e2
  rw [← Int.sign_mul]
  have := sign_bd' (x * y)
  exact ⟨i64_small (by omega) (by omega), _, rfl, rfl⟩
theorem sign_zero {x s : Int} (h : ∃ s', Value.int .i64 s = .int .i64 s' ∧ s' = x.sign) (hx : x = 0) : (s == 0) = true := by
  obtain ⟨s', e, rfl⟩ := h
  injection e with _ e
  subst e
  rw [beq_iff_eq, Int.sign_eq_zero_iff_zero]; exact hx
theorem vecL_x {x y : Int} {a b : Value} {g : Gh} {w : World} (h : VecL x y (.agg #[a, b]) g w) : LimR 2 x a g w := by
  obtain ⟨A, c, B, d, e, hc, _, h1, _⟩ := h
  injection e with e
  have e1 := congrArg (fun s : Array Value => s[0]?) e
  simp at e1
  exact ⟨A, c, e1, hc, h1⟩
theorem vecL_y {x y : Int} {a b : Value} {g : Gh} {w : World} (h : VecL x y (.agg #[a, b]) g w) : LimR 2 y b g w := by
  obtain ⟨A, c, B, d, e, _, hd, _, h2⟩ := h
  injection e with e
  have e1 := congrArg (fun s : Array Value => s[1]?) e
  simp at e1
  exact ⟨B, d, e1, hd, h2⟩
theorem vecN_x {L : Nat} {x y : Int} {a b c d : Value} {g : Gh} {w : World} (h : VecN L x y (.agg #[a, b, c, d]) g w) : NumG L x (.agg #[a, b]) g w := by
  obtain ⟨A, n, c, B, m, d, e, h1, h2⟩ := h
  injection e with e
  have e1 := congrArg (fun s : Array Value => s[0]?) e
  have e2 := congrArg (fun s : Array Value => s[1]?) e
  simp at e1 e2
  rw [e1, e2]; exact h1
theorem vecN_y {L : Nat} {x y : Int} {a b c d : Value} {g : Gh} {w : World} (h : VecN L x y (.agg #[a, b, c, d]) g w) : NumG L y (.agg #[c, d]) g w := by
  obtain ⟨A, n, c, B, m, d, e, h1, h2⟩ := h
  injection e with e
  have e1 := congrArg (fun s : Array Value => s[2]?) e
  have e2 := congrArg (fun s : Array Value => s[3]?) e
  simp at e1 e2
  rw [e1, e2]; exact h2
theorem vecN_mk {L : Nat} {x y : Int} {a b c d : Value} {g : Gh} {w : World} (h1 : NumG L x (.agg #[a, b]) g w) (h2 : NumG L y (.agg #[c, d]) g w) : VecN L x y (.agg #[a, b, c, d]) g w := by
  obtain ⟨A, e, ds, e1, r1⟩ := h1
  obtain ⟨B, f, dt, e2, r2⟩ := h2
  injection e1 with e1
  injection e2 with e2
  have i1 := congrArg (fun s : Array Value => s[0]?) e1
  have i2 := congrArg (fun s : Array Value => s[1]?) e1
  have i3 := congrArg (fun s : Array Value => s[0]?) e2
  have i4 := congrArg (fun s : Array Value => s[1]?) e2
  simp at i1 i2 i3 i4
  subst i1 i2 i3 i4
  exact ⟨A, _, e, B, _, f, rfl, ⟨A, e, ds, rfl, r1⟩, ⟨B, f, dt, rfl, r2⟩⟩
theorem gNum {c : Ctx} {g : Gh} {w : World} {L : Nat} {x : Int} {e : Ending} {w' : World} (_hI : RInv c g w) (h : GivesNum w (Off g) L x e w') : Gives (NumG L x) g w e w' := h
theorem lit_lim {c : Ctx} {g : Gh} {w : World} (hI : RInv c g w) (ls : List Int) (x : Int) (h : limbs ls.length x = ls) :
    LimR ls.length x (.slice (some ⟨w.heap.size, 0, none⟩) ls.length ls.length) g (w.alloc (.cells (ls.map (Value.int .u64)).toArray 26)) := by
  refine ⟨_, _, rfl, Nat.le_refl _, ?_⟩
  rw [h]
  refine SlR.off (w := w) (fun hl => ⟨w.heap.size, 0, rfl, Nat.le_refl _, fun j d hd => ?_⟩) hI
  simp [go_sem, hd]
theorem made_lim {c : Ctx} {g : Gh} {w : World} (hI : RInv c g w) (n : Nat) (hn : n ≤ 1000) :
    LimR n 0 (.slice (some ⟨w.heap.size, 0, none⟩) n n) g (w.alloc (.cells (madeCells #[.int .u64 0] n) 26)) := by
  obtain ⟨A, c, hv, hc, _, hs⟩ := (own_made w n hn).form
  rw [List.length_replicate] at hv hc
  injection hv with e1 _ e3
  subst e1
  subst e3
  have e : limbs n 0 = List.replicate n 0 := (limbs_unique List.length_replicate (zeros_us n) (by rw [zeros_uv]; simp)).symm
  refine ⟨_, _, rfl, Nat.le_refl _, ?_⟩
  rw [e]
  exact SlR.off (w := w) hs hI
theorem gAdd {c : Ctx} {g : Gh} {w : World} {va vb : Value} {L M : Nat} {x y : Int} (hI : RInv c g w) (ha : NumG L x va g w) (hb : NumG M y vb g w) (hL : L ≤ 900000) (hM : M ≤ 900000) :
    Calls Tryd.prog 33 #[va, vb] w (Gives (NumG (max L M + 1) (x + y)) g w) := r3add_any va vb x y L M (Off g) w ha hb hL hM hI.offs
theorem gSub {c : Ctx} {g : Gh} {w : World} {va vb : Value} {L M : Nat} {x y : Int} (hI : RInv c g w) (ha : NumG L x va g w) (hb : NumG M y vb g w) (hL : L ≤ 900000) (hM : M ≤ 900000) :
    Calls Tryd.prog 34 #[va, vb] w (Gives (NumG (max L M + 1) (x - y)) g w) := r3sub_any va vb x y L M (Off g) w ha hb hL hM hI.offs
theorem gMul {c : Ctx} {g : Gh} {w : World} {va vb : Value} {L M : Nat} {x y : Int} (hI : RInv c g w) (ha : NumG L x va g w) (hb : NumG M y vb g w) (hL : L ≤ 10000) (hM : M ≤ 10000) :
    Calls Tryd.prog 39 #[va, vb] w (Gives (NumG (L + M) (x * y)) g w) := r3mul_any va vb x y L M (Off g) w ha hb hL hM hI.offs
theorem gAddE {c : Ctx} {g : Gh} {w : World} {va vb : Value} {L : Nat} {x y : Int} (hI : RInv c g w) (ha : NumG L x va g w) (hb : NumG L y vb g w) (hL : L ≤ 900000) :
    Calls Tryd.prog 33 #[va, vb] w (Gives (NumG (L + 1) (x + y)) g w) := by
  have h := gAdd hI ha hb hL hL
  rwa [Nat.max_self] at h
theorem gSubE {c : Ctx} {g : Gh} {w : World} {va vb : Value} {L : Nat} {x y : Int} (hI : RInv c g w) (ha : NumG L x va g w) (hb : NumG L y vb g w) (hL : L ≤ 900000) :
    Calls Tryd.prog 34 #[va, vb] w (Gives (NumG (L + 1) (x - y)) g w) := by
  have h := gSub hI ha hb hL hL
  rwa [Nat.max_self] at h
theorem gNeg {g : Gh} {w : World} {va : Value} {L : Nat} {x : Int} (ha : NumG L x va g w) :
    Calls Tryd.prog 46 #[va] w (Gives (NumG L (-x)) g w) := r3neg_any va x L (Off g) w ha
/-- A number fits n limbs, and so does its opposite. -/
def Fit (n : Nat) (x : Int) : Prop := -M n < 2 * x ∧ 2 * x < M n
theorem Fit.neg {n : Nat} {x : Int} (h : Fit n x) : Fit n (-x) := by unfold Fit at *; omega
theorem Fit.sv {n : Nat} {x : Int} (h : Fit n x) : sv (limbs n x) = x := sv_limbs (by have := h.1; omega) h.2
theorem prod_fit {a b : Int} (ha : Fit 2 a) (hb : Fit 2 b) : -28948022309329048855892746252171976962977213799489202546401021394546514198529 ≤ a * b ∧ a * b ≤ 28948022309329048855892746252171976962977213799489202546401021394546514198529 := by
  unfold Fit at ha hb
  have e : M 2 = 340282366920938463463374607431768211456 := rfl
  have h1 : a.natAbs ≤ 170141183460469231731687303715884105727 := by omega
  have h2 : b.natAbs ≤ 170141183460469231731687303715884105727 := by omega
  have h3 := Nat.mul_le_mul h1 h2
  rw [← Int.natAbs_mul] at h3
  omega
theorem fit4_sub {a b c d : Int} (ha : Fit 2 a) (hb : Fit 2 b) (hc : Fit 2 c) (hd : Fit 2 d) : Fit 4 (a * b - c * d) := by
  have h1 := prod_fit ha hb
  have h2 := prod_fit hc hd
  have e : M 4 = 115792089237316195423570985008687907853269984665640564039457584007913129639936 := rfl
  unfold Fit
  omega
theorem fit4_add {a b c d : Int} (ha : Fit 2 a) (hb : Fit 2 b) (hc : Fit 2 c) (hd : Fit 2 d) : Fit 4 (a * b + c * d) := by
  have h1 := prod_fit ha hb
  have h2 := prod_fit hc hd
  have e : M 4 = 115792089237316195423570985008687907853269984665640564039457584007913129639936 := rfl
  unfold Fit
  omega
theorem RInv.offs0 {c : Ctx} {g : Gh} {w : World} (hI : RInv c g w) : Off g w.heap.size := hI.offs _ (Nat.le_refl _)
theorem S.diff {a b : Int} (ha : S a) (hb : S b) : Fit 2 (a - b) := by
  unfold S at ha hb
  unfold Fit
  have : M 2 = 340282366920938463463374607431768211456 := rfl
  omega
theorem gInt {c : Ctx} {g : Gh} {w : World} {x : Int} (hI : RInv c g w) (hx : S x) : Calls Tryd.prog 58 #[.int .i64 x] w (Gives (NumG 4 x) g w) := r3int_any x (Off g) w hI.offs hx
/-- A coordinate's sum, as int64 adds. -/
def shA (p x : Int) : Int := IntKind.i64.wrap (p + x)
/-- No coordinate overflows. -/
def shOk (p q x y : Int) : Bool := (decide (shA p x < p) == decide (x < 0)) && (decide (shA q y < q) == decide (y < 0))
def shI (p q x y : Int) : Int := if shOk p q x y then 1 else 0
theorem shA_s (p x : Int) : S (shA p x) := by
  unfold shA S
  have h1 : IntKind.i64.wrap (p + x) = (p + x + 9223372036854775808) % 18446744073709551616 - 9223372036854775808 := by
    simp [IntKind.wrap, IntKind.bits, IntKind.signed]
    omega
  omega
theorem shA_ok {p x : Int} (hp : S p) (hx : S x) (h : (decide (shA p x < p) == decide (x < 0)) = true) : shA p x = p + x := by
  unfold shA at *
  have h1 : IntKind.i64.wrap (p + x) = (p + x + 9223372036854775808) % 18446744073709551616 - 9223372036854775808 := by
    simp [IntKind.wrap, IntKind.bits, IntKind.signed]
    omega
  rw [beq_iff_eq, decide_eq_decide] at h
  unfold S at hp hx
  omega
theorem shI_bd (p q x y : Int) : 0 ≤ shI p q x y ∧ shI p q x y ≤ 1 := by unfold shI; split <;> omega
theorem shI_ok {p q x y : Int} (hp : S p) (hq : S q) (hx : S x) (hy : S y) (h : shI p q x y = 1) : shA p x = p + x ∧ shA q y = q + y := by
  unfold shI at h
  have h2 : shOk p q x y = true := by
    cases hs : shOk p q x y with
    | true => rfl
    | false => rw [hs] at h; simp at h
  unfold shOk at h2
  rw [Bool.and_eq_true] at h2
  exact ⟨shA_ok hp hx h2.1, shA_ok hq hy h2.2⟩
end Go.Proofs.YtehnpmkolabiaaaDoor
