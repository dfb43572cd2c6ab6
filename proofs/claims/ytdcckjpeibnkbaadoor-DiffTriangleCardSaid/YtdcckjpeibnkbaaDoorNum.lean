/-
  Plain mathematics: lists of digits of 16 bits and the numbers that they write. No program is named here.
-/
import Derived.Test.YtdcckjpeibnkbaaDoorRows
import Derived.WalkKit
namespace Go.Proofs.YtdcckjpeibnkbaaDoor

/-- The number that digits write, the least significant one first. -/
def ev : List Int → Int
  | [] => 0
  | d :: r => d + 65536 * ev r
/-- Digits. -/
def Dg (ds : List Int) : Prop := ∀ d ∈ ds, 0 ≤ d ∧ d < 65536
/-- Digits without leading zeros. -/
def Nf (ds : List Int) : Prop := Dg ds ∧ ∀ r d, ds = r ++ [d] → d ≠ 0
/-- Without leading zeros. -/
def trimL : List Int → List Int
  | [] => []
  | d :: r => match trimL r with
    | [] => if d = 0 then [] else [d]
    | e :: s => d :: e :: s
theorem Dg.nil_ : Dg [] := fun _ h => by cases h
theorem Dg.cons {d : Int} {r : List Int} (h : Dg (d :: r)) : (0 ≤ d ∧ d < 65536) ∧ Dg r := ⟨h d (by simp), fun x hx => h x (by simp [hx])⟩
theorem Dg.mk {d : Int} {r : List Int} (h0 : 0 ≤ d) (h1 : d < 65536) (h : Dg r) : Dg (d :: r) := fun x hx => by
  rcases List.mem_cons.1 hx with rfl | hx
  · exact ⟨h0, h1⟩
  · exact h x hx
theorem Dg.snoc {d : Int} {r : List Int} (h : Dg r) (h0 : 0 ≤ d) (h1 : d < 65536) : Dg (r ++ [d]) := fun x hx => by
  rcases List.mem_append.1 hx with hx | hx
  · exact h x hx
  · simp at hx; subst hx; exact ⟨h0, h1⟩
theorem Dg.take {ds : List Int} (h : Dg ds) (n : Nat) : Dg (ds.take n) := fun x hx => h x (List.mem_of_mem_take hx)
theorem Dg.at_ {ds : List Int} (h : Dg ds) {j : Nat} (hj : j < ds.length) : 0 ≤ ds[j] ∧ ds[j] < 65536 := h _ (List.getElem_mem hj)
/-- The digit at a place, or 0. -/
def dgt (ds : List Int) (i : Nat) : Int := ds.getD i 0
theorem dgt_lt {ds : List Int} {i : Nat} (h : i < ds.length) : dgt ds i = ds[i] := by unfold dgt; simp [h]
theorem dgt_ge {ds : List Int} {i : Nat} (h : ds.length ≤ i) : dgt ds i = 0 := by unfold dgt; simp [h]
theorem Dg.dgt {ds : List Int} (h : Dg ds) (i : Nat) : 0 ≤ dgt ds i ∧ dgt ds i < 65536 := by
  rcases Nat.lt_or_ge i ds.length with hi | hi
  · rw [dgt_lt hi]; exact h.at_ hi
  · rw [dgt_ge hi]; omega
theorem ev_append (a b : List Int) : ev (a ++ b) = ev a + 65536 ^ a.length * ev b := by
  induction a with
  | nil => simp [ev]
  | cons d r ih => simp only [List.cons_append, ev, ih, List.length_cons]; rw [Int.pow_succ, Int.mul_add, ← Int.mul_assoc, Int.mul_comm 65536 (65536 ^ r.length)]; omega
theorem ev_snoc (a : List Int) (d : Int) : ev (a ++ [d]) = ev a + 65536 ^ a.length * d := by rw [ev_append]; simp [ev]
theorem ev_nonneg {ds : List Int} (h : Dg ds) : 0 ≤ ev ds := by
  induction ds with
  | nil => simp [ev]
  | cons d r ih => have := h.cons; have := ih this.2; simp only [ev]; omega
theorem ev_lt {ds : List Int} (h : Dg ds) : ev ds < 65536 ^ ds.length := by
  induction ds with
  | nil => simp [ev]
  | cons d r ih => have h1 := h.cons; have := ih h1.2; simp only [ev, List.length_cons]; rw [Int.pow_succ]; omega
theorem ev_take_succ {ds : List Int} {k : Nat} (h : k < ds.length) : ev (ds.take (k + 1)) = ev (ds.take k) + 65536 ^ k * ds[k] := by
  rw [List.take_succ_eq_append_getElem h, ev_snoc, List.length_take, Nat.min_eq_left (Nat.le_of_lt h)]
/-- trimL. -/
theorem trimL_ev (ds : List Int) : ev (trimL ds) = ev ds := by
  induction ds with
  | nil => rfl
  | cons d r ih =>
    unfold trimL
    split
    · next e => rw [e] at ih; split <;> simp_all [ev, ← ih]
    · next e s h => rw [h] at ih; simp only [ev] at ih ⊢; rw [← ih]
theorem trimL_nf {ds : List Int} (h : Dg ds) : Nf (trimL ds) := by
  induction ds with
  | nil => exact ⟨Dg.nil_, fun r d e => by simp [trimL] at e⟩
  | cons d r ih =>
    have h1 := h.cons
    have ih := ih h1.2
    unfold trimL
    split
    · split
      · exact ⟨Dg.nil_, fun r d e => by simp at e⟩
      · next hd => exact ⟨Dg.mk h1.1.1 h1.1.2 Dg.nil_, fun r' d' e => by
          match r', e with
          | [], e => simp at e; omega
          | _ :: _, e => simp at e⟩
    · next e s he =>
      rw [he] at ih
      refine ⟨Dg.mk h1.1.1 h1.1.2 ih.1, fun r' d' e' => ?_⟩
      match r', e' with
      | [], e' => simp at e'
      | x :: r', e' => simp only [List.cons_append, List.cons.injEq] at e'; exact ih.2 r' d' e'.2
theorem trimL_snoc_zero (r : List Int) : trimL (r ++ [0]) = trimL r := by
  induction r with
  | nil => simp [trimL]
  | cons d r ih => simp only [List.cons_append, trimL, ih]
theorem trimL_snoc {d : Int} (h : d ≠ 0) (r : List Int) : trimL (r ++ [d]) = r ++ [d] := by
  induction r with
  | nil => simp [trimL, h]
  | cons x r ih =>
    simp only [List.cons_append, trimL, ih]
    cases hr : r ++ [d] with
    | nil => simp at hr
    | cons e s => rfl
theorem trimL_length (ds : List Int) : (trimL ds).length ≤ ds.length := by
  induction ds with
  | nil => simp [trimL]
  | cons d r ih =>
    unfold trimL
    split
    · split <;> simp
    · next e s h => rw [h] at ih; simp at ih ⊢; exact ih
theorem trimL_take (ds : List Int) : ∃ n, n ≤ ds.length ∧ trimL ds = ds.take n := by
  induction ds with
  | nil => exact ⟨0, by simp, rfl⟩
  | cons d r ih =>
    obtain ⟨n, hn, h⟩ := ih
    unfold trimL
    split
    · split
      · exact ⟨0, by simp, by simp⟩
      · exact ⟨1, by simp, by simp⟩
    · next e s he => exact ⟨n + 1, by simp; omega, by simp [← h, he]⟩
theorem Nf.pos {ds : List Int} (h : Nf ds) (hne : ds ≠ []) : 65536 ^ (ds.length - 1) ≤ ev ds := by
  have e := List.dropLast_concat_getLast hne
  have hd := h.2 _ _ e.symm
  have hr : 0 ≤ ds.getLast hne := (h.1 _ (List.getLast_mem hne)).1
  have hev : ev ds = ev ds.dropLast + 65536 ^ ds.dropLast.length * ds.getLast hne := by rw [← ev_snoc, e]
  have hn : 0 ≤ ev ds.dropLast := ev_nonneg fun x hx => h.1 x (List.dropLast_subset _ hx)
  rw [hev, List.length_dropLast]
  have hp : (0 : Int) ≤ 65536 ^ (ds.length - 1) := Int.pow_nonneg (by decide)
  have : 65536 ^ (ds.length - 1) * 1 ≤ 65536 ^ (ds.length - 1) * ds.getLast hne := Int.mul_le_mul_of_nonneg_left (by omega) hp
  omega
theorem Nf.ev_pos {ds : List Int} (h : Nf ds) (hne : ds ≠ []) : 0 < ev ds := by
  have := h.pos hne
  have hp : (0 : Int) < 65536 ^ (ds.length - 1) := Int.pow_pos (by decide)
  omega
theorem Nf.ev_zero {ds : List Int} (h : Nf ds) (h0 : ev ds = 0) : ds = [] := by
  rcases Classical.em (ds = []) with he | he
  · exact he
  · have := h.ev_pos he; omega
theorem ev_inj {xs : List Int} : ∀ {ys : List Int}, xs.length = ys.length → Dg xs → Dg ys → ev xs = ev ys → xs = ys := by
  induction xs with
  | nil => intro ys hl _ _ _; exact (List.eq_nil_of_length_eq_zero (by simpa using hl.symm)).symm
  | cons a r ih =>
    intro ys hl ha hb he
    match ys, hl, hb, he with
    | b :: s, hl, hb, he =>
      have h1 := ha.cons
      have h2 := hb.cons
      simp only [ev] at he
      have : a = b := by omega
      subst this
      rw [ih (by simpa using hl) h1.2 h2.2 (by omega)]
theorem Nf.length_le {ds : List Int} (h : Nf ds) {n : Nat} (hn : ev ds < 65536 ^ n) : ds.length ≤ n := by
  rcases Classical.em (ds = []) with he | he
  · subst he; simp
  · have h1 := h.pos he
    rcases Nat.lt_or_ge n ds.length with hlt | hge
    · have : (65536 : Int) ^ n ≤ 65536 ^ (ds.length - 1) := by
        obtain ⟨m, hm⟩ := Nat.exists_eq_add_of_le (show n ≤ ds.length - 1 by omega)
        rw [hm, Int.pow_add]
        have hp : (0 : Int) < 65536 ^ m := Int.pow_pos (by decide)
        have hq : (0 : Int) ≤ 65536 ^ n := Int.pow_nonneg (by decide)
        have := Int.mul_le_mul_of_nonneg_left (show (1 : Int) ≤ 65536 ^ m by omega) hq
        omega
      omega
    · exact hge
theorem Nf.inj {xs ys : List Int} (ha : Nf xs) (hb : Nf ys) (h : ev xs = ev ys) : xs = ys := by
  have h1 := ha.length_le (n := ys.length) (by rw [h]; exact ev_lt hb.1)
  have h2 := hb.length_le (n := xs.length) (by rw [← h]; exact ev_lt ha.1)
  exact ev_inj (by omega) ha.1 hb.1 h
theorem ev_take_dgt (ds : List Int) (k : Nat) : ev (ds.take (k + 1)) = ev (ds.take k) + 65536 ^ k * dgt ds k := by
  rcases Nat.lt_or_ge k ds.length with h | h
  · rw [ev_take_succ h, dgt_lt h]
  · rw [dgt_ge h, List.take_of_length_le (by omega), List.take_of_length_le h]; omega
/-- A digit of a sum. -/
theorem add_step {os as_ bs : List Int} {k : Nat} {cr s : Int} (hl : os.length = k) (h : ev os + 65536 ^ k * cr = ev (as_.take k) + ev (bs.take k)) (hs : s = dgt as_ k + dgt bs k + cr) :
    ev (os ++ [s % 65536]) + 65536 ^ (k + 1) * (s / 65536) = ev (as_.take (k + 1)) + ev (bs.take (k + 1)) := by
  rw [ev_snoc, ev_take_dgt, ev_take_dgt, hl, Int.pow_succ, Int.mul_assoc]
  have e : 65536 ^ k * (s % 65536) + 65536 ^ k * (65536 * (s / 65536)) = 65536 ^ k * s := by rw [← Int.mul_add]; congr 1; omega
  have e2 : 65536 ^ k * s = 65536 ^ k * dgt as_ k + 65536 ^ k * dgt bs k + 65536 ^ k * cr := by rw [hs, Int.mul_add, Int.mul_add]
  omega
/-- A digit of a difference. -/
theorem sub_step {os as_ bs : List Int} {k : Nat} {c s d c' : Int} (hl : os.length = k) (h : ev os = ev (as_.take k) - ev (bs.take k) + 65536 ^ k * c) (hs : s = dgt as_ k - dgt bs k - c) (hd : d = s + 65536 * c') :
    ev (os ++ [d]) = ev (as_.take (k + 1)) - ev (bs.take (k + 1)) + 65536 ^ (k + 1) * c' := by
  rw [ev_snoc, ev_take_dgt, ev_take_dgt, hl, Int.pow_succ, Int.mul_assoc]
  have e : 65536 ^ k * d = 65536 ^ k * s + 65536 ^ k * (65536 * c') := by rw [← Int.mul_add, hd]
  have e2 : 65536 ^ k * s = 65536 ^ k * dgt as_ k - 65536 ^ k * dgt bs k - 65536 ^ k * c := by rw [hs, Int.mul_sub, Int.mul_sub]
  omega
theorem sub_end {os as_ bs : List Int} {c : Int} (hl : os.length = as_.length) (h : ev os = ev as_ - ev bs + 65536 ^ as_.length * c) (h0 : 0 ≤ c) (h1 : c ≤ 1) (hd : Dg os) (hle : ev bs ≤ ev as_) : ev os = ev as_ - ev bs := by
  have h2 := ev_lt hd
  rw [hl] at h2
  have : c = 0 ∨ c = 1 := by omega
  rcases this with rfl | rfl
  · omega
  · omega
theorem ev_split (ds : List Int) (k : Nat) : ev ds = ev (ds.take k) + 65536 ^ (min k ds.length) * ev (ds.drop k) := by
  have h := ev_append (ds.take k) (ds.drop k)
  rw [List.take_append_drop, List.length_take] at h
  exact h
theorem sign_pos {n : Int} (h : 0 < n) : n.sign = 1 := Int.sign_eq_one_of_pos h
theorem sign_neg {n : Int} (h : n < 0) : n.sign = -1 := Int.sign_eq_neg_one_of_neg h
/-- Comparison of digits at the highest place at which they differ. -/
theorem cmp_at {as_ bs : List Int} {j : Nat} (ha : Dg as_) (hb : Dg bs) (hl : as_.length = bs.length) (hj : j < as_.length) (hd : as_.drop (j + 1) = bs.drop (j + 1)) :
    (dgt as_ j < dgt bs j → ev as_ < ev bs) ∧ (dgt bs j < dgt as_ j → ev bs < ev as_) := by
  have h1 := ev_split as_ (j + 1)
  have h2 := ev_split bs (j + 1)
  rw [Nat.min_eq_left (by omega), ev_take_dgt] at h1 h2
  rw [hd] at h1
  have a1 := ev_lt (ha.take j)
  have b1 := ev_lt (hb.take j)
  have a0 := ev_nonneg (ha.take j)
  have b0 := ev_nonneg (hb.take j)
  rw [List.length_take, Nat.min_eq_left (by omega)] at a1 b1
  have hp : (0 : Int) ≤ 65536 ^ j := Int.pow_nonneg (by decide)
  refine ⟨fun h => ?_, fun h => ?_⟩
  · have := Int.mul_le_mul_of_nonneg_left (show dgt as_ j + 1 ≤ dgt bs j by omega) hp
    rw [Int.mul_add] at this
    omega
  · have := Int.mul_le_mul_of_nonneg_left (show dgt bs j + 1 ≤ dgt as_ j by omega) hp
    rw [Int.mul_add] at this
    omega
theorem pow_le_pow {m n : Nat} (h : m ≤ n) : (65536 : Int) ^ m ≤ 65536 ^ n := by
  obtain ⟨k, rfl⟩ := Nat.exists_eq_add_of_le h
  rw [Int.pow_add]
  have hp : (0 : Int) < 65536 ^ k := Int.pow_pos (by decide)
  have hq : (0 : Int) ≤ 65536 ^ m := Int.pow_nonneg (by decide)
  have := Int.mul_le_mul_of_nonneg_left (show (1 : Int) ≤ 65536 ^ k by omega) hq
  omega
theorem cmp_len {as_ bs : List Int} (ha : Nf as_) (hb : Nf bs) (h : as_.length < bs.length) : ev as_ < ev bs := by
  have h1 := ev_lt ha.1
  have h2 := hb.pos (by intro he; subst he; simp at h)
  have h3 := pow_le_pow (show as_.length ≤ bs.length - 1 by omega)
  omega
theorem zeros_dg (k : Nat) : Dg (List.replicate k 0) := fun d hd => by rw [List.eq_of_mem_replicate hd]; decide
theorem zeros_ev (k : Nat) : ev (List.replicate k 0) = 0 := by
  induction k with
  | zero => rfl
  | succ k ih => simp [List.replicate_succ, ev, ih]
theorem power_ev (k : Nat) : ev (List.replicate k 0 ++ [1]) = 65536 ^ k := by rw [ev_snoc, zeros_ev, List.length_replicate]; omega
theorem power_nf (k : Nat) : Nf (List.replicate k 0 ++ [1]) := ⟨(zeros_dg k).snoc (by decide) (by decide), fun r d e => by
  have h := List.append_inj_right' e rfl
  simp at h
  omega⟩
theorem pow_pos' (k : Nat) : (0 : Int) < 65536 ^ k := Int.pow_pos (by decide)
end Go.Proofs.YtdcckjpeibnkbaaDoor
