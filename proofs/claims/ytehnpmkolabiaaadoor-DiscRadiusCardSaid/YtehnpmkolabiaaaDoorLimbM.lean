/-
  Plain mathematics of package limb: sums, differences, products and extensions of lists of words. No program is named here.
-/
import Derived.Test.YtehnpmkolabiaaaDoorBase
namespace Go.Proofs.YtehnpmkolabiaaaDoor

/-- Whether the value is negative. -/
def neg (l : List Int) : Bool := decide (sv l < 0)
/-- One or zero. -/
def b1 (c : Bool) : Int := if c then 1 else 0
theorem b1_true : b1 true = 1 := rfl
theorem b1_false : b1 false = 0 := rfl
theorem b1_bd (c : Bool) : 0 ≤ b1 c ∧ b1 c ≤ 1 := by cases c <;> decide
theorem mk_b1 (c : Bool) : mk c = 18446744073709551615 * b1 c := by cases c <;> rfl
theorem neg_top {l : List Int} (h : Us l) (h0 : 0 < l.length) : decide (9223372036854775808 ≤ l[l.length - 1]) = neg l := by
  have e := sv_top h h0
  have h1 := uv_nonneg h
  have h2 := uv_lt h
  rw [M_digits] at h2
  unfold neg
  rw [decide_eq_decide, e]
  split <;> omega
theorem sv_b1 {l : List Int} (h : Us l) : sv l = uv l - M l.length * b1 (neg l) := by
  have h1 := uv_nonneg h
  have h2 := uv_lt h
  have hp := M_pos l.length
  by_cases hn : sv l < 0
  · have e : neg l = true := decide_eq_true hn
    rw [e, b1_true, Int.mul_one]
    unfold sv at hn ⊢
    split at hn
    · omega
    · rename_i h3; rw [if_neg h3]
  · have e : neg l = false := decide_eq_false hn
    rw [e, b1_false, Int.mul_zero, Int.sub_zero]
    unfold sv at hn ⊢
    split at hn
    · rename_i h3; rw [if_pos h3]
    · omega
theorem uv_take_dgt (l : List Int) (k : Nat) : uv (l.take (k + 1)) = uv (l.take k) + M k * dgt l k := by
  rcases Nat.lt_or_ge k l.length with h | h
  · rw [uv_take_succ h, dgt_lt h]
  · rw [List.take_of_length_le (by omega), List.take_of_length_le h, dgt_ge h]; omega
theorem uv_take_mod {l : List Int} (h : Us l) {k : Nat} (hk : k ≤ l.length) : uv (l.take k) = uv l % M k := by
  have h0 := uv_nonneg (h.take k)
  have h1 := uv_lt (h.take k)
  have e := uv_append (l.take k) (l.drop k)
  rw [List.take_append_drop, List.length_take, Nat.min_eq_left hk] at e
  rw [List.length_take, Nat.min_eq_left hk] at h1
  rw [e, Int.add_mul_emod_self_left]
  exact (Int.emod_eq_of_lt h0 h1).symm
theorem mod_mod_le {m n : Nat} (h : m ≤ n) (x : Int) : x % M n % M m = x % M m := by
  obtain ⟨k, rfl⟩ := Nat.exists_eq_add_of_le h
  exact Int.emod_emod_of_dvd x ⟨M k, M_add m k⟩
theorem M_le {m n : Nat} (h : m ≤ n) : M m ≤ M n := by
  obtain ⟨k, rfl⟩ := Nat.exists_eq_add_of_le h
  rw [M_add]
  have h1 := M_pos m
  have h2 := M_pos k
  have := Int.mul_le_mul_of_nonneg_left (show (1 : Int) ≤ M k by omega) (Int.le_of_lt h1)
  omega
/-- Lists by their digits. -/
theorem ext_dgt {xs ys : List Int} (hl : xs.length = ys.length) (h : ∀ t, t < xs.length → dgt xs t = dgt ys t) : xs = ys :=
  List.ext_getElem hl fun t h1 h2 => by rw [← dgt_lt h1, ← dgt_lt h2]; exact h t h1
theorem dgt_replicate (n t : Nat) (x : Int) : dgt (List.replicate n x) t = if t < n then x else 0 := by
  unfold dgt
  rw [List.getD_eq_getElem?_getD, List.getElem?_replicate]
  split <;> rfl
theorem dgt_append (xs ys : List Int) (t : Nat) : dgt (xs ++ ys) t = if t < xs.length then dgt xs t else dgt ys (t - xs.length) := by
  unfold dgt
  rw [List.getD_eq_getElem?_getD, List.getD_eq_getElem?_getD, List.getD_eq_getElem?_getD, List.getElem?_append]
  split <;> rfl
theorem dgt_take (xs : List Int) (n t : Nat) : dgt (xs.take n) t = if t < n then dgt xs t else 0 := by
  unfold dgt
  rw [List.getD_eq_getElem?_getD, List.getD_eq_getElem?_getD, List.getElem?_take]
  split <;> rfl
theorem dgt_drop (xs : List Int) (n t : Nat) : dgt (xs.drop n) t = dgt xs (n + t) := by
  unfold dgt
  rw [List.getD_eq_getElem?_getD, List.getD_eq_getElem?_getD, List.getElem?_drop]
/-- An integer brought to n limbs. -/
def ext (l : List Int) (n : Nat) : List Int := l.take n ++ List.replicate (n - l.length) (mk (neg l))
theorem ext_length (l : List Int) (n : Nat) : (ext l n).length = n := by unfold ext; simp; omega
theorem ext_dgt_at (l : List Int) {n t : Nat} (h : t < n) : dgt (ext l n) t = if t < l.length then dgt l t else mk (neg l) := by
  unfold ext
  rw [dgt_append, List.length_take, dgt_take, dgt_replicate]
  by_cases h1 : t < l.length
  · rw [if_pos (by omega), if_pos h, if_pos h1]
  · rw [if_neg (by omega), if_neg h1, if_pos (by omega)]
theorem uv_fill (r : Nat) (c : Bool) : uv (List.replicate r (mk c)) = (M r - 1) * b1 c := by
  induction r with
  | zero => simp [uv, M_zero]
  | succ r ih =>
    rw [List.replicate_succ]
    simp only [uv, ih, M_succ]
    cases c
    · simp [mk, b1]
    · simp only [mk_true, b1_true]; omega
theorem fill_us (r : Nat) (c : Bool) : Us (List.replicate r (mk c)) := fun d hd => by rw [List.eq_of_mem_replicate hd]; exact U_mk c
theorem ext_us {l : List Int} (h : Us l) (n : Nat) : Us (ext l n) := fun d hd => by
  unfold ext at hd
  rcases List.mem_append.1 hd with h' | h'
  · exact h.take n d h'
  · exact fill_us _ _ d h'
theorem ext_limbs {l : List Int} (h : Us l) (n : Nat) : ext l n = limbs n (sv l) := by
  refine limbs_unique (ext_length l n) (ext_us h n) ?_
  unfold ext
  rcases Nat.lt_or_ge l.length n with hn | hn
  case inr => rw [show n - l.length = 0 by omega, List.replicate_zero, List.append_nil, uv_take_mod h hn, ← sv_mod l h, mod_mod_le hn]
  case inl =>
    rw [List.take_of_length_le (by omega), uv_append, uv_fill, sv_b1 h]
    obtain ⟨k, rfl⟩ := Nat.exists_eq_add_of_le (Nat.le_of_lt hn)
    rw [show l.length + k - l.length = k by omega, M_add]
    have h1 := uv_nonneg h
    have h2 := uv_lt h
    have hk := M_pos k
    have hl := M_pos l.length
    have hle : M l.length ≤ M l.length * M k := by
      have := Int.mul_le_mul_of_nonneg_left (show (1 : Int) ≤ M k by omega) (Int.le_of_lt hl)
      omega
    cases hneg : neg l
    · simp only [b1_false, Int.mul_zero, Int.add_zero, Int.sub_zero]
      exact (Int.emod_eq_of_lt h1 (by omega)).symm
    · simp only [b1_true, Int.mul_one]
      have hr := sv_range h
      have hs := sv_b1 h
      rw [hneg, b1_true, Int.mul_one] at hs
      have e : uv l + M l.length * (M k - 1) = (uv l - M l.length) + M l.length * M k := by rw [Int.mul_sub]; omega
      rw [e]
      have : (uv l - M l.length) % (M l.length * M k) = ((uv l - M l.length) + M l.length * M k) % (M l.length * M k) := by rw [Int.add_emod_right]
      rw [this]
      exact (Int.emod_eq_of_lt (by omega) (by omega)).symm
/-- Sums, limb by limb. -/
theorem uadd_step {os la lb : List Int} {k : Nat} {c s : Int} (hk : k < os.length) (h0 : dgt os k = 0) (hs : s = dgt la k + dgt lb k + c)
    (h : uv os + M k * c = uv (la.take k) + uv (lb.take k)) : uv (os.set k (lo s)) + M (k + 1) * hi s = uv (la.take (k + 1)) + uv (lb.take (k + 1)) := by
  rw [uv_set _ hk, h0, Int.sub_zero, M_succ, Int.mul_assoc, uv_take_dgt la, uv_take_dgt lb]
  have e : M k * lo s + M k * (18446744073709551616 * hi s) = M k * s := by rw [← Int.mul_add]; congr 1; have := lo_hi s; omega
  have e2 : M k * s = M k * dgt la k + M k * dgt lb k + M k * c := by rw [hs, Int.mul_add, Int.mul_add]
  omega
theorem uadd_end {os la lb : List Int} {c : Int} (hl : os.length = la.length) (hla : Us la) (hlb : Us lb) (hu : Us os) (hab : la.length = lb.length) (h : uv os + M os.length * c = uv la + uv lb) :
    os = limbs la.length (sv la + sv lb) := by
  refine limbs_unique hl hu ?_
  have h1 := uv_nonneg hu
  have h2 := uv_lt hu
  rw [sv_b1 hla, sv_b1 hlb, ← hab]
  rw [hl] at h h2
  have e : uv la - M la.length * b1 (neg la) + (uv lb - M la.length * b1 (neg lb)) = uv os + M la.length * (c - b1 (neg la) - b1 (neg lb)) := by
    rw [Int.mul_sub, Int.mul_sub]; omega
  rw [e, Int.add_mul_emod_self_left]
  exact (Int.emod_eq_of_lt h1 h2).symm
theorem lo_bo (n : Int) : lo n - bo n * 18446744073709551616 = n := by unfold lo bo; omega
theorem usub_step {os la lb : List Int} {k : Nat} {c s : Int} (hk : k < os.length) (h0 : dgt os k = 0) (hs : s = dgt la k - dgt lb k - c)
    (h : uv os - M k * c = uv (la.take k) - uv (lb.take k)) : uv (os.set k (lo s)) - M (k + 1) * bo s = uv (la.take (k + 1)) - uv (lb.take (k + 1)) := by
  rw [uv_set _ hk, h0, Int.sub_zero, M_succ, Int.mul_assoc, uv_take_dgt la, uv_take_dgt lb]
  have e : M k * lo s - M k * (18446744073709551616 * bo s) = M k * s := by rw [← Int.mul_sub]; congr 1; have := lo_bo s; omega
  have e2 : M k * s = M k * dgt la k - M k * dgt lb k - M k * c := by rw [hs, Int.mul_sub, Int.mul_sub]
  omega
theorem usub_end {os la lb : List Int} {c : Int} (hl : os.length = la.length) (hla : Us la) (hlb : Us lb) (hu : Us os) (hab : la.length = lb.length) (h : uv os - M os.length * c = uv la - uv lb) :
    os = limbs la.length (sv la - sv lb) := by
  refine limbs_unique hl hu ?_
  have h1 := uv_nonneg hu
  have h2 := uv_lt hu
  rw [sv_b1 hla, sv_b1 hlb, ← hab]
  rw [hl] at h h2
  have e : uv la - M la.length * b1 (neg la) - (uv lb - M la.length * b1 (neg lb)) = uv os + M la.length * (b1 (neg lb) - c - b1 (neg la)) := by
    rw [Int.mul_sub, Int.mul_sub]; omega
  rw [e, Int.add_mul_emod_self_left]
  exact (Int.emod_eq_of_lt h1 h2).symm
/-- The sign of a difference out of its limbs and its borrow. -/
theorem cmp_sign {os la lb : List Int} {c : Int} (hl : os.length = la.length) (hla : Us la) (hlb : Us lb) (hu : Us os) (hab : la.length = lb.length) (h : uv os - M os.length * c = uv la - uv lb) (h0 : 0 ≤ c) (h1 : c ≤ 1) :
    sgn3 (mk (decide (9223372036854775808 ≤ lo (mk (neg la) - mk (neg lb) - c)))) (mk (decide (uv os = 0))) = (sv la - sv lb).sign := by
  have ha := sv_b1 hla
  have hb := sv_b1 hlb
  have ra := sv_range hla
  have rb := sv_range hlb
  have o1 := uv_nonneg hu
  have o2 := uv_lt hu
  rw [hl] at h o2
  rw [← hab] at hb rb
  have hp := M_pos la.length
  have key : decide (9223372036854775808 ≤ lo (mk (neg la) - mk (neg lb) - c)) = decide (b1 (neg lb) - b1 (neg la) - c < 0) := by
    have hc : c = 0 ∨ c = 1 := by omega
    rcases hc with rfl | rfl <;> cases neg la <;> cases neg lb <;> decide
  rw [key]
  have hD : sv la - sv lb = uv os + M la.length * (b1 (neg lb) - b1 (neg la) - c) := by rw [ha, hb, Int.mul_sub, Int.mul_sub]; omega
  generalize b1 (neg lb) - b1 (neg la) - c = t at hD
  rcases Int.lt_or_le t 0 with ht | ht
  · have := Int.mul_le_mul_of_nonneg_left (show t ≤ -1 by omega) (Int.le_of_lt hp)
    rw [decide_eq_true ht, sign_neg (by omega)]
    simp [sgn3, mk_true]
  · have h3 : t = 0 := by
      rcases Int.lt_or_le 0 t with h4 | h4
      · have := Int.mul_le_mul_of_nonneg_left (show 1 ≤ t by omega) (Int.le_of_lt hp)
        omega
      · omega
    rw [h3, Int.mul_zero, Int.add_zero] at hD
    rw [hD, h3, decide_eq_false (by decide)]
    by_cases h5 : uv os = 0
    · rw [h5]; rfl
    · rw [decide_eq_false h5, sign_pos (by omega)]; rfl
theorem sign_val {la : List Int} (h : Us la) : sgn3 (mk (neg la)) (mk (decide (uv la = 0))) = (sv la).sign := by
  have ha := sv_b1 h
  have h0 := uv_nonneg h
  have h1 := uv_lt h
  by_cases hn : sv la < 0
  · rw [show neg la = true from decide_eq_true hn, sign_neg hn]; simp [sgn3, mk_true]
  · rw [show neg la = false from decide_eq_false hn] at ha ⊢
    rw [b1_false, Int.mul_zero, Int.sub_zero] at ha
    rw [ha]
    by_cases h5 : uv la = 0
    · rw [h5]; rfl
    · rw [decide_eq_false h5, sign_pos (by omega)]; rfl
/-- The union of words. -/
def orL (l : List Int) : Int := l.foldl (fun a d => bits .or .u64 a d) 0
theorem or_zero {a b : Int} (ha : U a) (hb : U b) : bits .or .u64 a b = 0 ↔ a = 0 ∧ b = 0 := by
  obtain ⟨x, rfl⟩ := U_word ha
  obtain ⟨y, rfl⟩ := U_word hb
  rw [or_w]
  have e : ∀ z : BitVec 64, ((z.toNat : Int) = 0 ↔ z = 0#64) := fun z => by
    constructor
    · intro h; exact BitVec.eq_of_toNat_eq (by simpa using (by omega : z.toNat = 0))
    · intro h; subst h; rfl
  rw [e, e, e, BitVec.or_eq_zero_iff]
theorem uv_zero {l : List Int} (h : Us l) : uv l = 0 ↔ ∀ d ∈ l, d = 0 := by
  induction l with
  | nil => simp [uv]
  | cons d r ih =>
    have h1 := h.cons
    have h2 := uv_nonneg h1.2
    have h3 := h1.1.1
    simp only [uv, List.mem_cons, forall_eq_or_imp]
    rw [← ih h1.2]
    omega
/-- Whether an integer fits into n limbs. -/
theorem fits_all {la : List Int} (h : Us la) {n : Nat} (hn : la.length ≤ n) : decide (sv (limbs n (sv la)) = sv la) = true := by
  have hr := sv_range h
  have hm := M_le hn
  exact decide_eq_true (sv_limbs (by omega) (by omega))
theorem fits_part {la : List Int} (h : Us la) {n : Nat} (hn : n ≤ la.length) :
    sv (limbs n (sv la)) = sv la ↔ ∀ t, n ≤ t → t < la.length → dgt la t = mk (neg (la.take n)) := by
  rw [← ext_limbs h n]
  have e : ext la n = la.take n := by unfold ext; rw [show n - la.length = 0 by omega]; simp
  rw [e]
  have ht : Us (la.take n) := h.take n
  have hl : (la.take n).length = n := by rw [List.length_take]; omega
  have hx := ext_limbs ht la.length
  constructor
  · intro hs t h1 h2
    rw [hs, limbs_sv h] at hx
    have := ext_dgt_at (la.take n) (n := la.length) h2
    rw [hx, if_neg (by omega)] at this
    exact this
  · intro hd
    have : ext (la.take n) la.length = la := by
      refine ext_dgt (ext_length _ _) fun t ht' => ?_
      rw [ext_length] at ht'
      rw [ext_dgt_at _ ht']
      by_cases h1 : t < (la.take n).length
      · rw [if_pos h1, dgt_take, if_pos (by omega)]
      · rw [if_neg h1]; exact (hd t (by omega) ht').symm
    rw [this] at hx
    have hr := sv_range ht
    rw [hl] at hr
    have hm := M_le hn
    have hv := sv_limbs (n := la.length) (x := sv (la.take n)) (by omega) (by omega)
    rw [← hx] at hv
    exact hv.symm
/-- Products, row by row. -/
theorem umul_step {os la lb : List Int} {i j : Nat} {c s P : Int} (hp : i + j < os.length) (hs : s = dgt la i * dgt lb j + dgt os (i + j) + c)
    (h : uv os + M (i + j) * c = P + M i * (dgt la i * uv (lb.take j))) :
    uv (os.set (i + j) (lo s)) + M (i + (j + 1)) * hi s = P + M i * (dgt la i * uv (lb.take (j + 1))) := by
  rw [uv_set _ hp, uv_take_dgt, Int.mul_add, Int.mul_add, ← Int.add_assoc P, ← h, ← Nat.add_assoc, M_succ, Int.mul_assoc, Int.mul_sub]
  have e1 : M (i + j) * lo s + M (i + j) * (18446744073709551616 * hi s) = M (i + j) * s := by rw [← Int.mul_add]; congr 1; have := lo_hi s; omega
  have e2 : M i * (dgt la i * (M j * dgt lb j)) = M (i + j) * (dgt la i * dgt lb j) := by
    rw [M_add, ← Int.mul_assoc (dgt la i), Int.mul_comm (dgt la i) (M j)]
    simp only [Int.mul_assoc]
  have e3 : M (i + j) * s = M (i + j) * (dgt la i * dgt lb j) + M (i + j) * dgt os (i + j) + M (i + j) * c := by rw [hs, Int.mul_add, Int.mul_add]
  omega
theorem umul_row {os la lb : List Int} {i : Nat} {c : Int} (hp : i + lb.length < os.length) (h0 : dgt os (i + lb.length) = 0)
    (h : uv os + M (i + lb.length) * c = uv (la.take i) * uv lb + M i * (dgt la i * uv (lb.take lb.length))) :
    uv (os.set (i + lb.length) c) = uv (la.take (i + 1)) * uv lb := by
  rw [uv_set _ hp, h0, Int.sub_zero, h, List.take_length, uv_take_dgt, Int.add_mul, Int.mul_assoc]
/-- The correction of the product's upper part: what it is modulo the whole. -/
theorem usubw_step {os lb : List Int} {off k : Nat} {c s P : Int} {m : Bool} (hk : off + k < os.length) (hs : s = dgt os (off + k) - (if m then dgt lb k else 0) - c)
    (h : uv os - M (off + k) * c = P - M off * (b1 m * uv (lb.take k))) :
    uv (os.set (off + k) (lo s)) - M (off + (k + 1)) * bo s = P - M off * (b1 m * uv (lb.take (k + 1))) := by
  rw [uv_set _ hk, uv_take_dgt, Int.mul_add, Int.mul_add, ← Int.sub_sub P, ← h, ← Nat.add_assoc, M_succ, Int.mul_assoc, Int.mul_sub]
  have e1 : M (off + k) * lo s - M (off + k) * (18446744073709551616 * bo s) = M (off + k) * s := by rw [← Int.mul_sub]; congr 1; have := lo_bo s; omega
  have e2 : M off * (b1 m * (M k * dgt lb k)) = M (off + k) * (if m then dgt lb k else 0) := by
    rw [M_add]
    cases m
    · simp [b1]
    · simp only [b1_true, Int.one_mul, if_true]; rw [Int.mul_assoc]
  have e3 : M (off + k) * s = M (off + k) * dgt os (off + k) - M (off + k) * (if m then dgt lb k else 0) - M (off + k) * c := by rw [hs, Int.mul_sub, Int.mul_sub]
  omega
theorem mul_end {os la lb : List Int} {c d : Int} (hl : os.length = la.length + lb.length) (hla : Us la) (hlb : Us lb) (hu : Us os)
    (h : uv os = uv la * uv lb - M la.length * (b1 (neg la) * uv lb) + M (la.length + lb.length) * c - M lb.length * (b1 (neg lb) * uv la) + M (la.length + lb.length) * d) :
    os = limbs (la.length + lb.length) (sv la * sv lb) := by
  refine limbs_unique hl hu ?_
  have h1 := uv_nonneg hu
  have h2 := uv_lt hu
  rw [hl] at h2
  rw [sv_b1 hla, sv_b1 hlb, Int.sub_mul, Int.mul_sub, Int.mul_sub]
  have e : uv la * uv lb - uv la * (M lb.length * b1 (neg lb)) - (M la.length * b1 (neg la) * uv lb - M la.length * b1 (neg la) * (M lb.length * b1 (neg lb)))
      = uv os + M (la.length + lb.length) * (b1 (neg la) * b1 (neg lb) - c - d) := by
    rw [h, Int.mul_sub, Int.mul_sub, M_add]
    have e1 : uv la * (M lb.length * b1 (neg lb)) = M lb.length * (b1 (neg lb) * uv la) := by rw [Int.mul_comm (uv la), Int.mul_assoc]
    have e2 : M la.length * b1 (neg la) * (M lb.length * b1 (neg lb)) = M la.length * M lb.length * (b1 (neg la) * b1 (neg lb)) := by
      rw [Int.mul_assoc, Int.mul_assoc]; congr 1
      rw [← Int.mul_assoc, ← Int.mul_assoc, Int.mul_comm (b1 (neg la)) (M lb.length)]
    rw [e1, e2, Int.mul_assoc (M la.length) (b1 (neg la)) (uv lb)]
    omega
  rw [e, Int.add_mul_emod_self_left]
  exact (Int.emod_eq_of_lt h1 h2).symm
end Go.Proofs.YtehnpmkolabiaaaDoor
