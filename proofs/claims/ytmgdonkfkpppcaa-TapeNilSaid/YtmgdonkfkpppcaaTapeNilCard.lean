/-
  Proved: for every event, every list of events, the law TapeNil returns true and leaves its arguments as they were.
  Conditions: none. Out of contracts of the package's functions and of the reference's.
-/
import Derived.Test.YtmgdonkfkpppcaaLaw10n
import Derived.Test.YtmgdonkfkpppcaaPlain
import Derived.Test.YtmgdonkfkpppcaaOpen10
namespace Go.Proofs.Ytmgdonkfkpppcaa.tapeNil
open Go.ChangeShapes Go.WideShapes Go.ChangeAt Go.RowKit

set_option maxRecDepth 100000 in
theorem lifted (os : Os) (started : os.Started) (H : Type) (enc : TypeId × Value → H) :
    ReturnsInHanded {} Try.checked os 7 .any (Rows.tapeNilSpec.pre6 enc Try.prog Try.f7 Rows.tapeNilRow.domain false) (Rows.tapeNilSpec.post enc Try.prog Try.f7 false true false false) := by
  refine returnsInHanded_of_change (C := Try.checked) own started (by kernel_rfl) Try.func7
    (ChangeSpec.witness6 (enc := enc) (C := Try.checked) false ⟨#[], #[.agg #[.int .i64 0, .int .i64 0, .int .i64 0], .slice none 0 0], []⟩ 8 (by kernel_rfl) (by kernel_rfl) (by kernel_rfl) (by kernel_rfl)) ?_
  intro W base args ds gs before hval0 hW hcnd _
  have hval : ∀ (j : Nat) t v, Try.f7.params[j]? = some t → args[j]? = some v → Value.okWide Try.prog W .any base t v := hval0
  have hW' := hW
  obtain ⟨p, q, hA0, hV, rfl, hfz, hnd⟩ := hW
  obtain ⟨rfl, rfl⟩ := trodVars_none hV
  have hK : DataW.TrodAll enc Try.prog W 0 (fun _ => true) true Try.f7.params.toList args.toList ds p := hA0
  have hA := hK
  simp only [List.append_nil] at hW'
  rw [Try.params7] at hA hval
  obtain ⟨v0, vs0, d0, ds0, p0, q0, hargs, rfl, rfl, h0, r0⟩ := trodAll_cons hA
  obtain ⟨v1, vs1, d1, ds1, p1, q1, rfl, rfl, rfl, h1, r1⟩ := trodAll_cons r0
  obtain ⟨rfl, rfl, rfl⟩ := trodAll_nil r1
  obtain rfl : args = #[v0, v1] := by cases args; simp_all
  obtain ⟨⟨a0, b0, e0⟩, rfl, w0⟩ := open_agg evC (fun x => (Lit.int .i64 x.k).wf = true) Try.underlying36 (fun _ _ _ h => by obtain ⟨a, b, d, e, h1, h2, h3⟩ := ints3_cells Try.underlying36 Try.underlying3 Try.underlying3 Try.underlying3 ⟨rfl, rfl, rfl⟩ ⟨(by kernel_rfl), (by kernel_rfl), (by kernel_rfl)⟩ (by kernel_rfl) h; exact ⟨⟨a, b, d⟩, e, h1⟩) (hval 0 36 v0 rfl rfl) h0
  obtain ⟨A1, c1, l1, rfl, t1, k1, g1, m1, n1⟩ := open_row (k := 3) evC (fun x => (Lit.int .i64 x.k).wf = true) Try.underlying22 (by kernel_rfl) (by decide) (fun _ _ _ h => by obtain ⟨a, b, d, e, h1, h2, h3⟩ := ints3_cells Try.underlying36 Try.underlying3 Try.underlying3 Try.underlying3 ⟨rfl, rfl, rfl⟩ ⟨(by kernel_rfl), (by kernel_rfl), (by kernel_rfl)⟩ (by kernel_rfl) h; exact ⟨⟨a, b, d⟩, e, h1⟩) (hval 1 22 v1 rfl rfl) h1
  have s1 := evsR_of t1
  have m1 := Nat.le_trans g1 m1
  clear hA0 hval0
  refine (law_tapeNil a0 b0 e0 A1 c1 l1 W w0 s1 k1 m1).mono fun e W' ⟨he, hq⟩ => ?_
  subst he
  exact ⟨_, rfl, post_law laidOut (by kernel_rfl) Try.underlying4 (by kernel_rfl) hW' hK rfl rfl hq⟩

/-- THE STATEMENT. -/
theorem proved : Rows.TapeNilSaid :=
  OpenClaim.holds_of_wide 7 Try.f7 rfl rfl rfl rfl rfl rfl rfl ⟨rfl, rfl, rfl, rfl, rfl⟩ rfl rfl rfl rfl rfl (by kernel_rfl) Try.func7 (by kernel_rfl)
    (of_decide_eq_true (by kernel_rfl)) (by unfold Func.isWrapper; first | (rw [if_pos (by decide +kernel)]; kernel_rfl) | (rw [if_neg (by decide +kernel)]; exact ⟨rfl, rfl⟩))
    (fun os started H enc _ => lifted os started H enc)
#print axioms proved
end Go.Proofs.Ytmgdonkfkpppcaa.tapeNil
