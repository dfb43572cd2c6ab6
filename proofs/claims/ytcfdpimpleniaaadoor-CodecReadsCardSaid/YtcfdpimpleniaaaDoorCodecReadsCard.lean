/-
  Proved: for every header, every slice of bytes, the law CodecReads returns true and leaves its arguments as they were.
  Conditions: the table of package mask starts as the program's text lays it (tied to the text by the given tie). Out of contracts of the packages' functions and of the reference's.
-/
import Derived.Test.YtcfdpimpleniaaaDoorCards
import Derived.Test.YtcfdpimpleniaaaDoorTie
import Derived.Test.YtcfdpimpleniaaaDoorP16
namespace Go.Proofs.YtcfdpimpleniaaaDoor.codecReads
open Go.ChangeShapes Go.WideShapes Go.ChangeAt Go.RowKit

set_option maxRecDepth 100000 in
theorem lifted (os : Os) (started : os.Started) (H : Type) (enc : TypeId × Value → H) :
    ReturnsInHanded {} Tryd.checked os 8 .any (fun w args => (Rows.codecReadsSpec.pre enc Tryd.prog Tryd.f8 [] false w args ∧ laidMetH Tryd.prog Rows.codecReadsRow.laid w) ∧ sizedMet enc Tryd.prog Tryd.f8 (OpenSpec.ofChange Rows.codecReadsSpec) false w args)
      (Rows.codecReadsSpec.post enc Tryd.prog Tryd.f8 false true false false) := by
  refine returnsInHanded_of_change_and (C := Tryd.checked) (X := fun w _ => laidMetH Tryd.prog Rows.codecReadsRow.laid w) (fun _ _ _ hh h => h.of_heap hh) own started (by kernel_rfl) Tryd.func8
    (ChangeSpec.witness_shaped (enc := enc) (C := Tryd.checked) (os := os) (X := fun w _ => laidMetH Tryd.prog Rows.codecReadsRow.laid w) false (World.doorLaid Tryd.prog 29 os) #[.agg #[.int .i64 0, .int .i64 0, .slice none 0 0, .int .i64 0], .slice none 0 0] 8 rfl (World.shaped_of_RefB (by kernel_rfl) (by kernel_rfl)) (by kernel_rfl) (by kernel_rfl) (by kernel_rfl) (door_met os _)) ?_
  intro W base args ds gs before hval0 hW _ _ hL _
  have hval : ∀ (j : Nat) t v, Tryd.f8.params[j]? = some t → args[j]? = some v → Value.okWide Tryd.prog W .any base t v := hval0
  have hW' := hW
  obtain ⟨p, q, hA0, hV, rfl, hfz, hnd⟩ := hW
  obtain ⟨rfl, rfl⟩ := trodVars_none hV
  have hK : DataW.TrodAll enc Tryd.prog W 0 (fun _ => true) true Tryd.f8.params.toList args.toList ds p := hA0
  have hA := hK
  simp only [List.append_nil] at hW'
  rw [Tryd.params8] at hA hval
  obtain ⟨v0, vs0, d0, ds0, p0, q0, hargs, rfl, rfl, h0, r0⟩ := trodAll_cons hA
  obtain ⟨v1, vs1, d1, ds1, p1, q1, rfl, rfl, rfl, h1, r1⟩ := trodAll_cons r0
  obtain ⟨rfl, rfl, rfl⟩ := trodAll_nil r1
  obtain rfl : args = #[v0, v1] := by cases args; simp_all
  obtain ⟨⟨o0, x0, B0, e0, g0, p0q⟩, rfl, w0⟩ := open_agg hdC (fun x => HxOk W x) Tryd.underlying24 (fun _ _ _ h => hd_cells Tryd.underlying24 Tryd.underlying3 Tryd.underlying3 Tryd.underlying22 Tryd.underlying3 ⟨rfl, rfl, rfl, rfl⟩ ⟨(by kernel_rfl), (by kernel_rfl), (by kernel_rfl), (by kernel_rfl)⟩ (by kernel_rfl) (by kernel_rfl) (fun _ _ _ h => rg_cells Tryd.underlying63 Tryd.underlying4 Tryd.underlying3 Tryd.underlying25 ⟨rfl, rfl, rfl⟩ ⟨(by kernel_rfl), (by kernel_rfl), (by kernel_rfl)⟩ (by kernel_rfl) Tryd.underlying65 Tryd.underlying2 Tryd.underlying2 ⟨rfl, rfl⟩ ⟨(by kernel_rfl), (by kernel_rfl)⟩ (by kernel_rfl) h) h) (hval 0 24 v0 rfl rfl) h0
  have y0 : ArgH W o0 x0 p0q B0 e0 g0 := ⟨w0.row, fun r hr => (w0.regs r hr).wf, ⟨S_of_wf w0.op, S_of_wf w0.vx, S_of_wf w0.pts⟩, Nat.le_trans w0.cap w0.max⟩
  obtain ⟨A1, c1, l1, rfl, t1, k01, k1, m1, n1⟩ := open_row (k := 1) (fun a => [Value.int .u8 a]) (fun a => (Lit.int .u8 a).wf = true) Tryd.underlying31 (by kernel_rfl) (by decide) (fun _ _ _ h => word_cells Tryd.underlying5 h) (hval 1 31 v1 rfl rfl) h1
  have s1 := t1.sl
  have u1 : UB l1 := fun d hd => u8_of_wf (k01 d hd)
  have hw := wts_of_laid hL
  clear hA0 hval0
  refine (law_codecReads o0 x0 p0q B0 e0 g0 A1 c1 l1 _ _ W hw y0 rfl ⟨s1, u1, k1, n1, m1⟩ rfl).mono fun e W' ⟨he, hq⟩ => ?_
  subst he
  exact ⟨_, rfl, post_law laidOut (by kernel_rfl) Tryd.underlying4 (by kernel_rfl) hW' hK rfl rfl hq⟩

theorem over : Rows.CodecReadsSaid :=
  OpenClaim.holds_of_wide 8 Tryd.f8 rfl rfl rfl rfl rfl rfl rfl ⟨rfl, rfl, rfl, rfl, rfl⟩ rfl rfl rfl rfl rfl (by kernel_rfl) Tryd.func8 (by kernel_rfl)
    (of_decide_eq_true (by kernel_rfl)) (by unfold Func.isWrapper; first | (rw [if_pos (by decide +kernel)]; kernel_rfl) | (rw [if_neg (by decide +kernel)]; exact ⟨rfl, rfl⟩))
    (fun os started H enc _ => lifted os started H enc)

/-- THE STATEMENT. -/
theorem proved : Rows.CodecReadsCardSaid :=
  Claim7.holds_tied_plain_at .later [] [.data, .data] true _ false
    over (fun _ h => by cases h) (by kernel_rfl) (fun _ h => by cases h) codecReads_row_tie rfl ⟨rfl, rfl⟩ (by kernel_rfl) rfl
    (fun f fn hf hfn => by
      obtain rfl : f = 8 := Option.some.inj ((show Tryd.prog.funcNamed "geofence/geofencelaw18.CodecReads" = some 8 by kernel_rfl).symm.trans hf) |>.symm
      obtain rfl : fn = Tryd.f8 := (Option.some.inj (Tryd.func8.symm.trans hfn)).symm
      exact ⟨by kernel_rfl, fun j t ht => by
        rw [Tryd.params8] at ht
        have hm : t ∈ [24, 31] := by simpa using Array.mem_of_getElem? ht
        have hall : ([24, 31].all fun u => !Tryd.prog.wantsStandIn u) = true := by kernel_rfl
        exact (show Tryd.prog.wantsStandIn t = false by simpa using List.all_eq_true.1 hall t hm)⟩)
    (by kernel_rfl)
#print axioms proved
end Go.Proofs.YtcfdpimpleniaaaDoor.codecReads
