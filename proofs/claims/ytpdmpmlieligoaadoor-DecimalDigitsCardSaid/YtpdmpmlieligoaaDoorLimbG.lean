/-
  Contracts of package limb, fourth part: Extend, From, Select, Fits.
-/
import Derived.Test.YtpdmpmlieligoaaDoorLimbF
import Derived.Lib.MinMax
namespace Go.Proofs.YtpdmpmlieligoaaDoor
open Go.RowKit

theorem own_of_heap {w : World} {base g n : Nat} {e : TypeId} {k : IntKind} {os : List Int} (hg : base ≤ g) (hh : w.heap[g]? = some (.cells (os.map (Value.int k)).toArray e (0, 0))) (hn : os.length = n) (hm : n ≤ 1000) :
    OwnK w base e k (.slice (some ⟨g, 0, none⟩) n n) os := by
  subst hn
  exact ⟨by simp, .inr ⟨g, os.length, _, rfl, hg, hh, Nat.le_refl _, by unfold maxLen; omega, by simp, by simp [List.take_of_length_le]⟩⟩
theorem own_gives {w w' : World} {n : Nat} {os : List Int} (h : OwnK w' w.heap.size 33 .u64 (.slice (some ⟨w.heap.size, 0, none⟩) n n) os) (hl : os.length = n) (hb : Below w.heap.size w w') :
    GivesF w os (.returned (.slice (some ⟨w.heap.size, 0, none⟩) n n)) w' := by
  subst hl
  obtain ⟨A1, c1, hv, hcap, _, hsl⟩ := h.form
  injection hv with ev1 ev2 ev3
  subst ev1
  subst ev3
  exact ⟨_, _, rfl, Nat.le_refl _, hsl, fun b off e j _ => by injection e with e; injection e with e1 e2; subst e1; subst e2; rw [Nat.zero_add]; exact h.frozen_ rfl j, hb⟩
theorem GivesF.u {w : World} {ls : List Int} {e : Ending} {w' : World} (h : GivesF w ls e w') : GivesU w ls e w' := by
  obtain ⟨A, c, rfl, hc, hs, _, hb⟩ := h
  exact ⟨A, c, rfl, hc, hs, hb⟩
theorem addr_add (b off j : Nat) : (⟨b, off, none⟩ : Addr).add j = ⟨b, off + j, none⟩ := by
  unfold Addr.add; split
  · next h => subst h; rfl
  · rfl
def ExtRel (W : World) (la : List Int) (n : Nat) (i : Value) (wr : World) : Prop :=
  ∃ (k : Nat) (os : List Int), i = .int .i64 k ∧ k ≤ n ∧ min la.length n ≤ k ∧ OwnK wr W.heap.size 33 .u64 (.slice (some ⟨W.heap.size, 0, none⟩) n n) os ∧ os.length = n ∧ (∀ t, t < k → dgt os t = dgt (ext la n) t) ∧ Below W.heap.size W wr
theorem splice_start (la : List Int) (n : Nat) : splice (List.replicate n (Value.int .u64 0)) 0 ((la.take n).map (Value.int .u64)) = (la.take n ++ List.replicate (n - la.length) 0).map (Value.int .u64) := by
  unfold splice
  simp only [List.take_zero, List.nil_append, Nat.zero_add, List.length_map, List.length_take, List.map_append, List.map_replicate, List.drop_replicate]
  congr 2
  omega
/-- A signed word as an integer of one limb. -/
theorem one_us (x : Int) : Us [IntKind.u64.wrap x] := fun d hd => by simp at hd; subst hd; exact U_wrap x
theorem one_sv {x : Int} (h : S x) : sv [IntKind.u64.wrap x] = x := by
  unfold sv
  have e : M [IntKind.u64.wrap x].length = 18446744073709551616 := rfl
  have e2 : uv [IntKind.u64.wrap x] = x % 18446744073709551616 := by simp [uv, wrap_u]
  rw [e, e2]
  unfold S at h
  split <;> omega
theorem one_arg (w : World) (x : Int) : Arg (w.alloc (.cells #[.int .u64 (IntKind.u64.wrap x)] 33)) (some ⟨w.heap.size, 0, none⟩) 1 [IntKind.u64.wrap x] :=
  ⟨fun _ => ⟨w.heap.size, 0, rfl, trivial, fun j d hd => by
    match j, hd with
    | 0, hd => simp at hd; subst hd; simp [go_sem]⟩, one_us x, by simp⟩
end Go.Proofs.YtpdmpmlieligoaaDoor
