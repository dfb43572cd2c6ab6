/-
  Opening a slice of words that came in. No program is named here.
-/
import Derived.Test.YtdcckjpeibnkbaaDoorCardKit
import Derived.Test.YtdcckjpeibnkbaaDoorMem
import Derived.Test.YtdcckjpeibnkbaaDoorLimbs
import Derived.ChangeSlices
import Derived.ProofKit
namespace Go.Proofs.YtdcckjpeibnkbaaDoor
open Go.RowKit Go.ChangeShapes Go.WideShapes

theorem open_words {H : Type} {enc : TypeId × Value → H} {P : Program} {W : World} {base : Nat} {held : Bool} {t e : TypeId} {r : Reach} {b0 : Nat} {v : Value} {d : DataW H} {p : List MemPlace}
    (ht : P.underlying t = some (.slice e)) (he : P.underlying e = some (.int .u64)) (hc : P.cellsOf e = 1) (hv : Value.okWide P W r b0 t v) (h : DataW.Trod enc P W base (fun _ => true) held t v d p) :
    ∃ (A : Option Addr) (c : Nat) (ls : List Int), v = .slice A ls.length c ∧ SlR W (fun _ => True) .u64 A ls ∧ Us ls ∧ ls.length ≤ c ∧ c ≤ maxLen := by
  obtain ⟨A0, len0, cap0, rfl⟩ := okWide_slice ht hv
  obtain ⟨fuel, hf⟩ := h
  rcases open_ints ht he hc hf with ⟨hcs, _⟩ | ⟨a, len, cap, zs, hcs, _, hl, hm, hz, _, hcell, hwz⟩
  · simp [Value.cells] at hcs
    obtain ⟨rfl, rfl, rfl⟩ := hcs
    exact ⟨none, 0, [], rfl, SlR.nil_ _ _ _ _, (fun d h => by cases h), Nat.le_refl _, Nat.zero_le _⟩
  · simp [Value.cells] at hcs
    obtain ⟨rfl, rfl, rfl⟩ := hcs
    have hz' : zs.length = cap0 := by simpa using hz
    have hlen : (zs.take len0).length = len0 := by rw [List.length_take]; omega
    refine ⟨some a, cap0, zs.take len0, by rw [hlen], fun h0 => ?_, fun d hd => ?_, by rw [hlen]; exact hl, hm⟩
    · obtain ⟨b, off, rfl, hc2⟩ := ints_at hcell (by rw [hlen] at h0; omega)
      refine ⟨b, off, rfl, trivial, fun j x hx => ?_⟩
      have hj : j < len0 := by
        rcases Nat.lt_or_ge j len0 with h | h
        · exact h
        · rw [List.getElem?_eq_none (by rw [hlen]; exact h)] at hx; cases hx
      rw [List.getElem?_take, if_pos hj] at hx
      rw [hc2 j (by omega)]
      have : zs.getD j 0 = x := by simp [List.getD_eq_getElem?_getD, hx]
      rw [this]
    · have := bounds_u64 (hwz d (List.mem_of_mem_take hd))
      unfold U; omega
end Go.Proofs.YtdcckjpeibnkbaaDoor
