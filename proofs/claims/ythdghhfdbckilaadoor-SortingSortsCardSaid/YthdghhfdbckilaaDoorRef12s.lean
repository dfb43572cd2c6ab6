/-
  The reference of layer 12: Comparators of any number, Sorted.
-/
import Derived.Test.YthdghhfdbckilaaDoorRef12
namespace Go.Proofs.YthdghhfdbckilaaDoor
open Go.RowKit
set_option maxRecDepth 100000
set_option linter.unusedVariables false
set_option linter.unusedSimpArgs false

theorem lgN_pow {q : Nat} (hq : q ≤ 12) : lgN (2 ^ q : Nat) = q :=
  lgN_eq (by omega) (fun b hb => by have := Nat.pow_lt_pow_right (a := 2) (by omega) hb; omega) hq
/-- The comparators for n, if there are any. -/
def compsN (n : Int) : List (Nat × Nat) := if isN n then Net.comps (lgN n) else []
theorem ref12Comparators_any (n : Int) (w : World) : Calls Tryd.prog 22 #[.int .i64 n] w fun e w' => ∃ v, e = .returned v ∧ RowC w.heap.size w w' v (compsN n) := by
  by_cases h : isN n = true
  · obtain ⟨q, hq, rfl⟩ := (isN_iff n).1 h
    have e : compsN (2 ^ q : Nat) = Net.comps q := by unfold compsN; rw [if_pos h, lgN_pow hq]
    rw [e]
    exact ref12Comparators_yes q hq w
  · have h' : isN n = false := by simpa using h
    have e : compsN n = [] := by unfold compsN; rw [if_neg h]
    rw [e]
    go_enter Tryd.func22, Tryd.ntmps22
    go_wp2_with (fail)
    refine (ref12Is_any n w false h').mono ?_
    rintro e w' ⟨rfl, hw'⟩
    obtain rfl := hw'.symm
    go_wp2
    go_ret
    exact ⟨_, rfl, World.ownsRow_nil _ _ _ _, Below.refl _ _⟩
/-! ### Sorted -/
theorem infoW12 : (Tryd.prog.info? 22).map (fun i => (i.zero, i.size, i.bytes)) = some (some (.int .u64 0), 1, 8) := by kernel_rfl
/-- ys with z at place m and the others behind. -/
def insAt (ys : List Int) (m : Nat) (z : Int) : List Int := ys.take m ++ z :: ys.drop m
theorem insAt_len {ys : List Int} {m : Nat} {z : Int} : (insAt ys m z).length = ys.length + 1 := by
  unfold insAt; simp [List.length_take, List.length_drop]; omega
theorem insAt_set {ys : List Int} {m : Nat} {z x : Int} (h : m ≤ ys.length) : (insAt ys m z).set m x = insAt ys m x := by
  unfold insAt
  rw [List.set_append_right _ _ (by simp; omega)]
  simp [Nat.min_eq_left h]
theorem insAt_down {ys : List Int} {m : Nat} {z : Int} (h : m + 1 ≤ ys.length) : (insAt ys (m + 1) z).set (m + 1) (dgt ys m) = insAt ys m (dgt ys m) := by
  rw [insAt_set h]
  unfold insAt
  rw [List.take_succ_eq_append_getElem (by omega), List.append_assoc, List.cons_append, List.nil_append, dgt_lt (by omega), List.drop_eq_getElem_cons (show m < ys.length by omega)]
theorem insAt_dgt {ys : List Int} {m : Nat} {z : Int} (h : m + 1 ≤ ys.length) : dgt (insAt ys (m + 1) z) m = dgt ys m := by
  rw [dgt_lt (by rw [insAt_len]; omega), dgt_lt (by omega)]
  unfold insAt
  rw [List.getElem_append_left (by simp; omega)]
  simp
theorem insAt_sorted {ys : List Int} {k : Nat} {x : Int} (hs : ys.Pairwise (· ≤ ·)) (hk : k ≤ ys.length) (h1 : ∀ j, j < k → dgt ys j ≤ x) (h2 : k < ys.length → x < dgt ys k) : (insAt ys k x).Pairwise (· ≤ ·) := by
  unfold insAt
  have hsplit := hs
  rw [← List.take_append_drop k ys, List.pairwise_append] at hsplit
  obtain ⟨p1, p2, p3⟩ := hsplit
  rw [List.pairwise_append, List.pairwise_cons]
  have ha : ∀ a ∈ ys.take k, a ≤ x := fun a ha => by
    obtain ⟨j, hj, rfl⟩ := List.mem_iff_getElem.1 ha
    rw [List.length_take] at hj
    have hj1 := Nat.lt_min.1 hj
    have := h1 j hj1.1
    rw [dgt_lt hj1.2] at this
    simpa using this
  have hb : ∀ b ∈ ys.drop k, x ≤ b := fun b hb => by
    obtain ⟨j, hj, rfl⟩ := List.mem_iff_getElem.1 hb
    simp at hj
    have hk2 : k < ys.length := by omega
    have h3 := h2 hk2
    rw [dgt_lt hk2] at h3
    have h4 : ys[k] ≤ ys[k + j] := by
      by_cases e : j = 0
      · subst e; exact Int.le_refl _
      · exact (List.pairwise_iff_getElem.1 hs) k (k + j) hk2 (by omega) (by omega)
    simp only [List.getElem_drop]
    omega
  exact ⟨p1, ⟨hb, p2⟩, fun a h b h' => by
    rcases List.mem_cons.1 h' with rfl | h'
    · exact ha a h
    · exact p3 a h b h'⟩
theorem insAt_perm {ys zs : List Int} {k : Nat} {x : Int} (h : ys.Perm zs) : (insAt ys k x).Perm (zs ++ [x]) := by
  unfold insAt
  refine (List.perm_middle).trans ?_
  rw [List.take_append_drop]
  exact (h.cons x).trans (List.perm_append_singleton x zs).symm
theorem OwnK.drewN1 {w : World} {base : Nat} {e : TypeId} {k : IntKind} {v : Value} {os : List Int} (h : OwnK w base e k v os) (n : Nat) : OwnK (w.drewN n) base e k v os := h
end Go.Proofs.YthdghhfdbckilaaDoor
