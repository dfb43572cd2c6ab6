/-
  More words for memory: cells of a row of the call's own, stores into it, make. No program is named here.
-/
import Derived.Test.YtdcckjpeibnkbaaDoorMem
import Derived.Test.YtdcckjpeibnkbaaDoorNum
import Derived.Deep.OwnRows
namespace Go.Proofs.YtdcckjpeibnkbaaDoor
open Go.RowKit

/-- What is known of the value of a row of n numbers. -/
theorem OwnK.slice_ {w : World} {base : Nat} {e : TypeId} {k : IntKind} {v : Value} {os : List Int} {n : Nat} (h : OwnK w base e k v os) (hn : os.length = n) :
    ∃ A c, v = .slice A n c ∧ n ≤ c ∧ (0 < n → ∃ g, A = some ⟨g, 0, none⟩ ∧ base ≤ g) := by
  subst hn
  rcases h.2 with ⟨rfl, h0⟩ | ⟨g, cap, cur, rfl, hg, _, hc, _⟩
  · exact ⟨none, 0, by rw [h0], by omega, fun h => by omega⟩
  · exact ⟨some ⟨g, 0, none⟩, cap, rfl, hc, fun _ => ⟨g, rfl, hg⟩⟩
theorem OwnK.cell_ {w : World} {base g c n : Nat} {e : TypeId} {k : IntKind} {os : List Int} (h : OwnK w base e k (.slice (some ⟨g, 0, none⟩) n c) os) (hn : os.length = n) {j : Nat} (hj : j < n) :
    w.cell? ⟨g, j, none⟩ = some (.int k (dgt os j)) := by
  subst hn
  unfold OwnK at h
  rw [World.ownsRow.cellAt h j (by omega), List.getElem?_map, List.getElem?_eq_getElem hj, dgt_lt hj]; rfl
theorem OwnK.frozen_ {w : World} {base g c n : Nat} {e : TypeId} {k : IntKind} {os : List Int} (h : OwnK w base e k (.slice (some ⟨g, 0, none⟩) n c) os) (hn : os.length = n) (j : Nat) : w.frozen? ⟨g, j, none⟩ = false := by
  subst hn; exact World.ownsRow.frozenAt h j
theorem OwnK.set_ {w : World} {base g c n : Nat} {e : TypeId} {k : IntKind} {os : List Int} (h : OwnK w base e k (.slice (some ⟨g, 0, none⟩) n c) os) (hn : os.length = n) (j : Nat) (x : Int) :
    OwnK (w.setCell ⟨g, j, none⟩ (.int k x)) base e k (.slice (some ⟨g, 0, none⟩) n c) (os.set j x) ∧ (os.set j x).length = n := by
  subst hn
  refine ⟨?_, by simp⟩
  unfold OwnK
  rw [List.length_set, List.map_set]
  exact (World.ownsRow.stored h j (.int k x)).1
/-- A value at one place replaced. -/
theorem ev_set {os : List Int} {j : Nat} (x : Int) (hj : j < os.length) : ev (os.set j x) = ev os + 65536 ^ j * (x - dgt os j) := by
  induction os generalizing j with
  | nil => simp at hj
  | cons d r ih =>
    cases j with
    | zero => simp [ev, dgt, List.set]; omega
    | succ j =>
      have hj' : j < r.length := by simpa using hj
      simp only [List.set_cons_succ, ev, ih hj']
      have : dgt (d :: r) (j + 1) = dgt r j := by unfold dgt; simp
      rw [this, Int.pow_succ, Int.mul_add, ← Int.mul_assoc, Int.mul_comm 65536 (65536 ^ j)]
      omega
theorem dgt_set {os : List Int} {j : Nat} (x : Int) (hj : j < os.length) (i : Nat) : dgt (os.set j x) i = if i = j then x else dgt os i := by
  unfold dgt
  by_cases h : i = j
  · subst h; simp [hj]
  · rw [if_neg h]; simp [List.getElem?_set_ne (Ne.symm h), List.getD_eq_getElem?_getD]
theorem Dg.set_ {os : List Int} (h : Dg os) (j : Nat) {x : Int} (h0 : 0 ≤ x) (h1 : x < 65536) : Dg (os.set j x) := fun d hd => by
  rcases List.mem_or_eq_of_mem_set hd with h' | rfl
  · exact h d h'
  · exact ⟨h0, h1⟩
/-- The columns' step of the product. -/
theorem mul_step {os da db : List Int} {i j : Nat} {c s P : Int} (hp : i + j < os.length) (hs : s = dgt os (i + j) + dgt da i * dgt db j + c)
    (h : ev os + 65536 ^ (i + j) * c = P + 65536 ^ i * (dgt da i * ev (db.take j))) :
    ev (os.set (i + j) (s % 65536)) + 65536 ^ (i + (j + 1)) * (s / 65536) = P + 65536 ^ i * (dgt da i * ev (db.take (j + 1))) := by
  rw [ev_set _ hp, ev_take_dgt, Int.mul_add, Int.mul_add, ← Int.add_assoc P, ← h, ← Nat.add_assoc, Int.pow_succ, Int.mul_assoc, Int.mul_sub]
  have e1 : 65536 ^ (i + j) * (s % 65536) + 65536 ^ (i + j) * (65536 * (s / 65536)) = 65536 ^ (i + j) * s := by rw [← Int.mul_add]; congr 1; omega
  have e2 : (65536 : Int) ^ i * (dgt da i * (65536 ^ j * dgt db j)) = 65536 ^ (i + j) * (dgt da i * dgt db j) := by
    rw [Int.pow_add, ← Int.mul_assoc (dgt da i), Int.mul_comm (dgt da i) (65536 ^ j)]
    simp only [Int.mul_assoc]
  have e3 : 65536 ^ (i + j) * s = 65536 ^ (i + j) * dgt os (i + j) + 65536 ^ (i + j) * (dgt da i * dgt db j) + 65536 ^ (i + j) * c := by rw [hs, Int.mul_add, Int.mul_add]
  omega
theorem mul_row {os da db : List Int} {i : Nat} {c : Int} (hp : i + db.length < os.length) (h0 : dgt os (i + db.length) = 0)
    (h : ev os + 65536 ^ (i + db.length) * c = ev (da.take i) * ev db + 65536 ^ i * (dgt da i * ev (db.take db.length))) :
    ev (os.set (i + db.length) c) = ev (da.take (i + 1)) * ev db := by
  rw [ev_set _ hp, h0, Int.sub_zero, h, List.take_length, ev_take_dgt, Int.add_mul, Int.mul_assoc]
theorem prod_digits {a b c d : Int} (ha : 0 ≤ a ∧ a < 65536) (hb : 0 ≤ b ∧ b < 65536) (hc : 0 ≤ c ∧ c < 65536) (hd : 0 ≤ d ∧ d < 65536) : 0 ≤ a * b ∧ a * b ≤ 4294836225 ∧ 0 ≤ c + a * b + d ∧ c + a * b + d < 4294967296 := by
  have h1 : 0 ≤ a * b := Int.mul_nonneg ha.1 hb.1
  have h2 : a * b ≤ 65535 * 65535 := Int.mul_le_mul (by omega) (by omega) hb.1 (by decide)
  omega
end Go.Proofs.YtdcckjpeibnkbaaDoor
