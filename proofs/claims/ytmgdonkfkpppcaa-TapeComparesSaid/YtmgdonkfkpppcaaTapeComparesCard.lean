/-
  Proved: for every list of events, every list of events, the law TapeCompares returns true and leaves its arguments as they were.
  Conditions: none. Out of contracts of the package's functions and of the reference's.
-/
import Derived.Test.YtmgdonkfkpppcaaLaw10
import Derived.Test.YtmgdonkfkpppcaaPlain
import Derived.Test.YtmgdonkfkpppcaaOpen10
namespace Go.Proofs.Ytmgdonkfkpppcaa.tapeCompares
open Go.ChangeShapes Go.WideShapes Go.ChangeAt Go.RowKit

set_option maxRecDepth 100000 in
theorem lifted (os : Os) (started : os.Started) (H : Type) (enc : TypeId × Value → H) :
    ReturnsInHanded {} Try.checked os 4 .any (Rows.tapeComparesSpec.pre6 enc Try.prog Try.f4 Rows.tapeComparesRow.domain false) (Rows.tapeComparesSpec.post enc Try.prog Try.f4 false true false false) := by
  refine returnsInHanded_of_change (C := Try.checked) own started (by kernel_rfl) Try.func4
    (ChangeSpec.witness6 (enc := enc) (C := Try.checked) false ⟨#[], #[.slice none 0 0, .slice none 0 0], []⟩ 8 (by kernel_rfl) (by kernel_rfl) (by kernel_rfl) (by kernel_rfl)) ?_
  intro W base args ds gs before hval0 hW hcnd _
  have hval : ∀ (j : Nat) t v, Try.f4.params[j]? = some t → args[j]? = some v → Value.okWide Try.prog W .any base t v := hval0
  have hW' := hW
  obtain ⟨p, q, hA0, hV, rfl, hfz, hnd⟩ := hW
  obtain ⟨rfl, rfl⟩ := trodVars_none hV
  have hK : DataW.TrodAll enc Try.prog W 0 (fun _ => true) true Try.f4.params.toList args.toList ds p := hA0
  have hA := hK
  simp only [List.append_nil] at hW'
  rw [Try.params4] at hA hval
  obtain ⟨v0, vs0, d0, ds0, p0, q0, hargs, rfl, rfl, h0, r0⟩ := trodAll_cons hA
  obtain ⟨v1, vs1, d1, ds1, p1, q1, rfl, rfl, rfl, h1, r1⟩ := trodAll_cons r0
  obtain ⟨rfl, rfl, rfl⟩ := trodAll_nil r1
  obtain rfl : args = #[v0, v1] := by cases args; simp_all
  obtain ⟨A0, c0, l0, rfl, t0, k0, g0, m0, n0⟩ := open_row (k := 3) evC (fun x => (Lit.int .i64 x.k).wf = true) Try.underlying22 (by kernel_rfl) (by decide) (fun _ _ _ h => by obtain ⟨a, b, d, e, h1, h2, h3⟩ := ints3_cells Try.underlying36 Try.underlying3 Try.underlying3 Try.underlying3 ⟨rfl, rfl, rfl⟩ ⟨(by kernel_rfl), (by kernel_rfl), (by kernel_rfl)⟩ (by kernel_rfl) h; exact ⟨⟨a, b, d⟩, e, h1⟩) (hval 0 22 v0 rfl rfl) h0
  have s0 := evsR_of t0
  have m0 := Nat.le_trans g0 m0
  obtain ⟨A1, c1, l1, rfl, t1, k1, g1, m1, n1⟩ := open_row (k := 3) evC (fun x => (Lit.int .i64 x.k).wf = true) Try.underlying22 (by kernel_rfl) (by decide) (fun _ _ _ h => by obtain ⟨a, b, d, e, h1, h2, h3⟩ := ints3_cells Try.underlying36 Try.underlying3 Try.underlying3 Try.underlying3 ⟨rfl, rfl, rfl⟩ ⟨(by kernel_rfl), (by kernel_rfl), (by kernel_rfl)⟩ (by kernel_rfl) h; exact ⟨⟨a, b, d⟩, e, h1⟩) (hval 1 22 v1 rfl rfl) h1
  have s1 := evsR_of t1
  have m1 := Nat.le_trans g1 m1
  clear hA0 hval0
  refine (law_tapeCompares A0 A1 c0 c1 l0 l1 W s0 s1 k0 k1 m0 m1).mono fun e W' ⟨he, hq⟩ => ?_
  subst he
  exact ⟨_, rfl, post_law laidOut (by kernel_rfl) Try.underlying4 (by kernel_rfl) hW' hK rfl rfl hq⟩

/-- THE STATEMENT. -/
theorem proved : Rows.TapeComparesSaid :=
  OpenClaim.holds_of_wide 4 Try.f4 rfl rfl rfl rfl rfl rfl rfl ⟨rfl, rfl, rfl, rfl, rfl⟩ rfl rfl rfl rfl rfl (by kernel_rfl) Try.func4 (by kernel_rfl)
    (of_decide_eq_true (by kernel_rfl)) (by unfold Func.isWrapper; first | (rw [if_pos (by decide +kernel)]; kernel_rfl) | (rw [if_neg (by decide +kernel)]; exact ⟨rfl, rfl⟩))
    (fun os started H enc _ => lifted os started H enc)
#print axioms proved
end Go.Proofs.Ytmgdonkfkpppcaa.tapeCompares
