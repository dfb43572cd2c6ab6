/-
  Proved: for every request, the law EngineEvents returns true and leaves its arguments as they were.
  Conditions: the tables that the row lists start as the program's text lays them (tied to the text by the given tie); the table of wanted orientations may hold whatever. Out of contracts of the packages' functions and of the reference's.
-/
import Derived.Test.YthmkllpdkcmccaaGreatDoorCards
import Derived.Test.YthmkllpdkcmccaaGreatDoorTie
import Derived.Test.YthmkllpdkcmccaaGreatDoorP17
namespace Go.Proofs.YthmkllpdkcmccaaGreatDoor.engineEvents
open Go.ChangeShapes Go.WideShapes Go.ChangeAt Go.RowKit

set_option maxRecDepth 100000 in
theorem lifted (os : Os) (started : os.Started) (H : Type) (enc : TypeId × Value → H) :
    ReturnsInHanded {} Tryz.checked os 4 .any (fun w args => (Rows.engineEventsSpec.pre enc Tryz.prog Tryz.f4 [] false w args ∧ laidMetH Tryz.prog Rows.engineEventsRow.laid w) ∧ sizedMet enc Tryz.prog Tryz.f4 (OpenSpec.ofChange Rows.engineEventsSpec) false w args)
      (Rows.engineEventsSpec.post enc Tryz.prog Tryz.f4 false true false false) := by
  refine handed_shape (Pre1 := fun w args => (Rows.engineEventsSpec.pre enc Tryz.prog Tryz.f4 [] false w args ∧ (laidMetH Tryz.prog Rows.engineEventsRow.laid w ∧ w.ShapedOpen Tryz.prog)) ∧ sizedMet enc Tryz.prog Tryz.f4 (OpenSpec.ofChange Rows.engineEventsSpec) false w args) (fun w args h => ⟨⟨h.1.1, h.1.2.1⟩, h.2⟩) (fun w args hs h => ⟨⟨h.1.1, h.1.2, hs⟩, h.2⟩) ?_
  refine returnsInHanded_of_change_and (C := Tryz.checked) (X := fun w _ => laidMetH Tryz.prog Rows.engineEventsRow.laid w ∧ w.ShapedOpen Tryz.prog) (fun _ _ _ hh h => ⟨h.1.of_heap hh, World.ShapedOpen.of_heap hh h.2⟩) own started (by kernel_rfl) Tryz.func4
    (ChangeSpec.witness_shaped (enc := enc) (C := Tryz.checked) (os := os) (X := fun w _ => laidMetH Tryz.prog Rows.engineEventsRow.laid w ∧ w.ShapedOpen Tryz.prog) false (World.doorLaid Tryz.prog 29 os) #[.agg #[.int .i64 0, .int .i64 0, .slice none 0 0, .int .i64 0, .slice none 0 0, .slice none 0 0, .slice none 0 0]] 8 rfl (World.shaped_of_RefB (by kernel_rfl) (by kernel_rfl)) (by kernel_rfl) (by kernel_rfl) (by kernel_rfl) ⟨door_met os _, World.ShapedOpen.of_heap (by rfl) (World.shapedOpen_of_shaped (World.shaped_of_RefB (by kernel_rfl) (by kernel_rfl)))⟩) ?_
  intro W base args ds gs before hval0 hW _ _ hL _
  have hval : ∀ (j : Nat) t v, Tryz.f4.params[j]? = some t → args[j]? = some v → Value.okWide Tryz.prog W .any base t v := hval0
  have hW' := hW
  obtain ⟨p, q, hA0, hV, rfl, hfz, hnd⟩ := hW
  obtain ⟨rfl, rfl⟩ := trodVars_none hV
  have hK : DataW.TrodAll enc Tryz.prog W 0 (fun _ => true) true Tryz.f4.params.toList args.toList ds p := hA0
  have hA := hK
  simp only [List.append_nil] at hW'
  rw [Tryz.params4] at hA hval
  obtain ⟨v0, vs0, d0, ds0, p0, q0, hargs, rfl, rfl, h0, r0⟩ := trodAll_cons hA
  obtain ⟨rfl, rfl, rfl⟩ := trodAll_nil r0
  obtain rfl : args = #[v0] := by cases args; simp_all
  obtain ⟨⟨⟨o0, x0, B0, e0, g0, p0q⟩, RA0, rc0, rs0, PA0, pc0, ps0, QA0, qc0, qs0⟩, rfl, w0⟩ := open_agg rxC (fun x => RxOk W x) Tryz.underlying40 (fun _ _ _ h => rx_cells Tryz.underlying40 Tryz.underlying35 Tryz.underlying22 Tryz.underlying38 ⟨rfl, rfl, rfl, rfl⟩ ⟨(by kernel_rfl), (by kernel_rfl), (by kernel_rfl), (by kernel_rfl)⟩ (by kernel_rfl) ⟨(by kernel_rfl), (by kernel_rfl), (by kernel_rfl)⟩ (fun _ _ _ h => hd_cells Tryz.underlying37 Tryz.underlying3 Tryz.underlying3 Tryz.underlying35 Tryz.underlying3 ⟨rfl, rfl, rfl, rfl⟩ ⟨(by kernel_rfl), (by kernel_rfl), (by kernel_rfl), (by kernel_rfl)⟩ (by kernel_rfl) (by kernel_rfl) (fun _ _ _ h => rg_cells Tryz.underlying53 Tryz.underlying4 Tryz.underlying3 Tryz.underlying22 ⟨rfl, rfl, rfl⟩ ⟨(by kernel_rfl), (by kernel_rfl), (by kernel_rfl)⟩ (by kernel_rfl) Tryz.underlying24 Tryz.underlying2 Tryz.underlying2 ⟨rfl, rfl⟩ ⟨(by kernel_rfl), (by kernel_rfl)⟩ (by kernel_rfl) h) h) (fun _ _ _ h => rg_cells Tryz.underlying53 Tryz.underlying4 Tryz.underlying3 Tryz.underlying22 ⟨rfl, rfl, rfl⟩ ⟨(by kernel_rfl), (by kernel_rfl), (by kernel_rfl)⟩ (by kernel_rfl) Tryz.underlying24 Tryz.underlying2 Tryz.underlying2 ⟨rfl, rfl⟩ ⟨(by kernel_rfl), (by kernel_rfl)⟩ (by kernel_rfl) h) (fun _ _ _ h => by obtain ⟨a, b, e, h1, h2⟩ := ints2_cells Tryz.underlying24 Tryz.underlying2 Tryz.underlying2 ⟨rfl, rfl⟩ ⟨(by kernel_rfl), (by kernel_rfl)⟩ (by kernel_rfl) h; exact ⟨⟨a, b⟩, e, h1, h2⟩) (fun _ _ _ h => qr_cells Tryz.underlying111 Tryz.underlying64 ⟨rfl, rfl⟩ ⟨(by kernel_rfl), (by kernel_rfl)⟩ (by kernel_rfl) (fun _ _ _ h => by obtain ⟨a, b, e, h1, h2⟩ := ints2_cells Tryz.underlying24 Tryz.underlying2 Tryz.underlying2 ⟨rfl, rfl⟩ ⟨(by kernel_rfl), (by kernel_rfl)⟩ (by kernel_rfl) h; exact ⟨⟨a, b⟩, e, h1, h2⟩) h) h) (hval 0 40 v0 rfl rfl) h0
  obtain ⟨q, hw⟩ := wtsC_of_shape (wts_of_laid hL.1) hL.2
  clear hA0 hval0
  refine (law_engineEvents q _ _ _ _ _ _ _ _ _ _ _ _ _ _ _ _ _ _ _ W hw w0.req w0.len).mono fun e W' ⟨he, hq⟩ => ?_
  subst he
  exact ⟨_, rfl, post_law laidOut (by kernel_rfl) Tryz.underlying4 (by kernel_rfl) hW' hK rfl rfl hq⟩

theorem over : Rows.EngineEventsSaid :=
  OpenClaim.holds_of_wide 4 Tryz.f4 rfl rfl rfl rfl rfl rfl rfl ⟨rfl, rfl, rfl, rfl, rfl⟩ rfl rfl rfl rfl rfl (by kernel_rfl) Tryz.func4 (by kernel_rfl)
    (of_decide_eq_true (by kernel_rfl)) (by unfold Func.isWrapper; first | (rw [if_pos (by decide +kernel)]; kernel_rfl) | (rw [if_neg (by decide +kernel)]; exact ⟨rfl, rfl⟩))
    (fun os started H enc _ => lifted os started H enc)

/-- THE STATEMENT. -/
theorem proved : Rows.EngineEventsCardSaid :=
  Claim7.holds_tied_plain_at .later [] [.data, .data] true _ false
    over (fun _ h => by cases h) (by kernel_rfl) (fun _ h => by cases h) engineEvents_row_tie rfl ⟨rfl, rfl⟩ (by kernel_rfl) rfl
    (fun f fn hf hfn => by
      obtain rfl : f = 4 := Option.some.inj ((show Tryz.prog.funcNamed "geofence/geofencelaw19.EngineEvents" = some 4 by kernel_rfl).symm.trans hf) |>.symm
      obtain rfl : fn = Tryz.f4 := (Option.some.inj (Tryz.func4.symm.trans hfn)).symm
      exact ⟨by kernel_rfl, fun j t ht => by
        rw [Tryz.params4] at ht
        have hm : t ∈ [40] := by simpa using Array.mem_of_getElem? ht
        have hall : ([40].all fun u => !Tryz.prog.wantsStandIn u) = true := by kernel_rfl
        exact (show Tryz.prog.wantsStandIn t = false by simpa using List.all_eq_true.1 hall t hm)⟩)
    (by kernel_rfl)
#print axioms proved
end Go.Proofs.YthmkllpdkcmccaaGreatDoor.engineEvents
