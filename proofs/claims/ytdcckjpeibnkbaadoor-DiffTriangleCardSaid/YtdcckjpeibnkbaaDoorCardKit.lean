/-
  The last step of a law's row, whatever the arguments' types: where the call only laid new blocks, every argument reads behind it as it read before, and the result true is read. No program is named here.
-/
import Derived.Test.YtdcckjpeibnkbaaDoorRows
import Derived.Below
import Derived.Carry
import Derived.ChangeSame
import Derived.OpenShut
import Derived.RowKit
namespace Go.Proofs.YtdcckjpeibnkbaaDoor
open Go.RowKit Go.ChangeShapes Go.WideShapes

theorem readable_all {P : Program} {t : TypeId} {ts : List TypeId} (h : ((t :: ts).all fun t => P.readableRec t && decide (t < P.types.size)) = true) : P.readableRec t = true ∧ t < P.types.size ∧ (ts.all fun t => P.readableRec t && decide (t < P.types.size)) = true := by
  simp only [List.all_cons, Bool.and_eq_true, decide_eq_true_eq] at h
  exact ⟨h.1.1, h.1.2, h.2⟩
/-- All arguments read as before. -/
theorem stays_all {H : Type} {enc : TypeId × Value → H} {P : Program} (hl : laidOutB P = true) {W W' : World} {sp : Nat → Bool} :
    ∀ {ts : List TypeId} {vs : List Value} {ds : List (DataW H)} {ps : List MemPlace}, (ts.all fun t => P.readableRec t && decide (t < P.types.size)) = true →
      DataW.TrodAll enc P W 0 (fun _ => true) true ts vs ds ps → (∀ x ∈ ps, W.sameAt W' x) → (∀ x ∈ ps, sp x.block = true) → DataW.TrodAll enc P W' 0 sp true ts vs ds ps
  | [], [], [], _, _, h, _, _ => h
  | [], _ :: _, _, _, _, h, _, _ => h.elim
  | [], [], _ :: _, _, _, h, _, _ => h.elim
  | _ :: _, [], _, _, _, h, _, _ => h.elim
  | _ :: _, _ :: _, [], _, _, h, _, _ => h.elim
  | t :: ts, v :: vs, d :: ds, ps, hr, h, hs, hp => by
    obtain ⟨p, q, h1, h2, rfl⟩ := h
    obtain ⟨r1, r2, r3⟩ := readable_all hr
    exact ⟨p, q, WideElems.Trod_stays hl r1 r2 h1 (fun x hx => hs x (by simp [hx])) (fun x hx => hp x (by simp [hx])), stays_all hl r3 h2 (fun x hx => hs x (by simp [hx])) (fun x hx => hp x (by simp [hx])), rfl⟩

/-- An array of two words. -/
theorem open_u64x2 {H : Type} {enc : TypeId × Value → H} {P : Program} {W : World} {base : Nat} {sp : Nat → Bool} {held : Bool} {t e : TypeId} {r : Reach} {b0 : Nat} {v : Value} {d : DataW H} {p : List MemPlace}
    (hu : P.underlying t = some (.array 2 e)) (he : P.underlying e = some (.int .u64)) (hce : P.cellsOf e = 1) (hct : P.cellsOf t = 2) (hv : Value.okWide P W r b0 t v) (h : DataW.Trod enc P W base sp held t v d p) :
    ∃ a b : Int, v = .agg #[.int .u64 a, .int .u64 b] ∧ (Lit.int .u64 a).wf = true ∧ (Lit.int .u64 b).wf = true := by
  simp only [Value.okWide, hu] at hv
  obtain ⟨cs, rfl, hn, _⟩ := hv
  rw [hct] at hn
  obtain ⟨fuel, hf⟩ := h
  obtain ⟨xs, m, _, _, _, hx, hall⟩ := DataW.trod_array hu hf
  rw [hce] at hall
  have k0 := hall 0 (by decide)
  have k1 := hall 1 (by decide)
  obtain ⟨c0, c1, rfl⟩ : ∃ c0 c1, cs = #[c0, c1] := by
    match cs, hn with
    | ⟨[c0, c1]⟩, _ => exact ⟨c0, c1, rfl⟩
  match xs, hx with
  | [x0, x1], _ =>
    obtain ⟨a, ha, _, wa⟩ := DataW.trod_int he k0
    obtain ⟨b, hb, _, wb⟩ := DataW.trod_int he k1
    simp [Value.cells] at ha hb
    exact ⟨a, b, by rw [ha, hb], wa, wb⟩

/-- A law's row. -/
theorem post_law {H : Type} {enc : TypeId × Value → H} {P : Program} {f : Func} {s : ChangeSpec} {W W' : World} {args : Array Value} {ds : List (DataW H)} {before : List MemPlace} {tb : TypeId}
    (hl : laidOutB P = true) (hr : (f.params.toList.all fun t => P.readableRec t && decide (t < P.types.size)) = true) (hb : P.underlying tb = some .bool) (hres : f.resultTypes = #[tb])
    (hW : DataW.Whole enc P f.params.toList s.vars false W args.toList ds [] before) (hA : DataW.TrodAll enc P W 0 (fun _ => true) true f.params.toList args.toList ds before)
    (hfn : s.fn H ds = { results := [.lit (.bool true)], args := ds }) (hv : s.vars = []) (h : Below W.heap.size W W') :
    s.post enc P f false true false false W args (.bool true) W' := by
  have hlt : ∀ p ∈ before, p.block < W.heap.size := fun p hp => by simpa using hW.lt p hp
  have hfn' : s.fn H (ds ++ []) = { results := [.lit (.bool true)], args := ds } := by rw [List.append_nil]; exact hfn
  refine ⟨ds, [], before, [], before, [], hW, ?_, ?_, ?_, World.keptBut_mono (fun p hp => ⟨hp, ?_⟩) (h.frame (· ∈ before)), fun hf => ?_⟩
  · rw [hfn', hres]; exact trodAll_cons_mk (shut_bool hb true) rfl
  · rw [hfn']; exact stays_all hl hr hA (fun p hp => h.same (hlt p hp)) (fun p hp => by simpa using hlt p hp)
  · rw [hfn', hv]; exact rfl
  · exact Or.inr (Or.inl hp)
  · exact absurd hf (by decide)
end Go.Proofs.YtdcckjpeibnkbaaDoor
