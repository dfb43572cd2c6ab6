/-
  A listed table of integers within arrays and structs holds its numbers, cell for cell. No program is named here.
-/
import Derived.Lib.LaidTab
import Derived.OpenShut
namespace Go.Proofs.YtokabljeekokmaaDoor
open Go.RowKit
set_option maxRecDepth 100000
set_option linter.unusedVariables false
set_option linter.unusedSimpArgs false

/-- Types made of integers, structs and arrays alone, whose parts leave no cell out. -/
def flatT (P : Program) : Nat → TypeId → Bool
  | 0, _ => false
  | n + 1, t => match P.underlying t with
    | some (.int _) => true
    | some (.struct fs) => fs.toList.all (fun f => flatT P n f.type) && (List.range (P.cellsOf t)).all fun j => (List.range fs.size).any fun i => match fs[i]? with | some f => decide (f.offset ≤ j ∧ j < f.offset + P.cellsOf f.type) | none => false
    | some (.array m e) => flatT P n e && (List.range (P.cellsOf t)).all fun j => (List.range m).any fun i => decide (i * P.cellsOf e ≤ j ∧ j < i * P.cellsOf e + P.cellsOf e)
    | _ => false

theorem chunk_at {α : Type} {cs cs' : List α} {a c j : Nat} (h : (cs.drop a).take c = (cs'.drop a).take c) (h1 : a ≤ j) (h2 : j < a + c) : cs[j]? = cs'[j]? := by
  have := congrArg (·[j - a]?) h
  simp only [List.getElem?_take, List.getElem?_drop] at this
  rw [if_pos (by omega), if_pos (by omega), show a + (j - a) = j by omega] at this
  exact this

theorem flat_unique {H : Type} {enc : TypeId × Value → H} {P : Program} {w : World} {base : Nat} {sp : Nat → Bool} {held : Bool} : ∀ (n : Nat) {fuel fuel' : Nat} {t : TypeId} {cs cs' : List Value} {D : DataW H} {p p' : List MemPlace},
    flatT P n t = true → DataW.trod enc P w base sp held fuel t cs = some (D, p) → DataW.trod enc P w base sp held fuel' t cs' = some (D, p') → cs = cs' := by
  intro n
  induction n with
  | zero => intro _ _ _ _ _ _ _ _ h; simp [flatT] at h
  | succ n ih =>
    intro fuel fuel' t cs cs' D p p' hf h h'
    unfold flatT at hf
    split at hf
    · rename_i k ht
      obtain ⟨x, rfl, hx, _⟩ := DataW.trod_int ht h
      obtain ⟨y, rfl, hy, _⟩ := DataW.trod_int ht h'
      injection hx with hx _
      injection hy with hy _
      rw [hx] at hy
      injection hy with hy
      injection hy with _ hy
      rw [hy]
    · rename_i fs ht
      simp only [Bool.and_eq_true, List.all_eq_true, List.any_eq_true, List.mem_range] at hf
      obtain ⟨hf1, hf2⟩ := hf
      obtain ⟨xs, m, rfl, hx, hl, hxl, hxs⟩ := DataW.trod_struct ht h
      obtain ⟨ys, m', rfl, hy, hl', hyl, hys⟩ := DataW.trod_struct ht h'
      injection hx with hx _
      injection hy with hy _
      rw [hx] at hy
      injection hy with hy
      apply List.ext_getElem?
      intro j
      by_cases hj : j < P.cellsOf t
      · obtain ⟨i, hi, hd⟩ := hf2 j hj
        have hif : fs[i]? = some fs[i] := Array.getElem?_eq_getElem hi
        rw [hif] at hd
        simp only [decide_eq_true_eq] at hd
        have e1 := hxs i _ hif
        have e2 := hys i _ hif
        have e3 := congrArg (·[i]?) hy
        simp only [List.getElem?_map] at e3
        rw [List.getElem?_eq_getElem (by omega)] at e1 e2
        rw [List.getElem?_eq_getElem (by omega), List.getElem?_eq_getElem (by omega)] at e3
        simp only [Option.map_some, Option.some.injEq] at e3
        have hm : fs[i] ∈ fs.toList := by simp
        exact chunk_at (ih (D := xs[i].1) (p := xs[i].2) (p' := ys[i].2) (hf1 _ hm) e1 (by rw [e2, e3])) hd.1 hd.2
      · rw [List.getElem?_eq_none (by omega), List.getElem?_eq_none (by omega)]
    · rename_i m0 e ht
      simp only [Bool.and_eq_true, List.all_eq_true, List.any_eq_true, List.mem_range, decide_eq_true_eq] at hf
      obtain ⟨hf1, hf2⟩ := hf
      obtain ⟨xs, m, rfl, hx, hl, hxl, hxs⟩ := DataW.trod_array ht h
      obtain ⟨ys, m', rfl, hy, hl', hyl, hys⟩ := DataW.trod_array ht h'
      injection hx with hx _
      injection hy with hy _
      rw [hx] at hy
      injection hy with hy
      apply List.ext_getElem?
      intro j
      by_cases hj : j < P.cellsOf t
      · obtain ⟨i, hi, hd⟩ := hf2 j hj
        have e1 := hxs i hi
        have e2 := hys i hi
        have e3 := congrArg (·[i]?) hy
        simp only [List.getElem?_map] at e3
        rw [List.getElem?_eq_getElem (by omega)] at e1 e2
        rw [List.getElem?_eq_getElem (by omega), List.getElem?_eq_getElem (by omega)] at e3
        simp only [Option.map_some, Option.some.injEq] at e3
        exact chunk_at (ih (D := xs[i].1) (p := xs[i].2) (p' := ys[i].2) hf1 e1 (by rw [e2, e3])) hd.1 hd.2
      · rw [List.getElem?_eq_none (by omega), List.getElem?_eq_none (by omega)]
    · cases hf

/-- From the row's condition to the cells: the table stands first on the list. -/
theorem flat_of_head {P : Program} {W : World} {name : String} {D : DataW Unit} {rest : List (String × DataW Unit)} {g n fuel : Nat} {t : TypeId} {cs0 : List Value} {p0 : List MemPlace}
    (hg : P.globalNamed name = some g) (hty : (P.globals[g]?).map (·.type) = some t) (hf : flatT P n t = true)
    (h0 : DataW.trod (fun _ => ()) P W 0 (fun _ => true) false fuel t cs0 = some (D, p0)) (h : laidMet P ((name, D) :: rest) W) : W.var? P name = some cs0.toArray := by
  obtain ⟨ps, ⟨g', t', cs, fuel, p, q, hg', ht', hvar, hd, _, _⟩, _⟩ := h
  obtain rfl := Option.some.inj (hg.symm.trans hg')
  obtain rfl := Option.some.inj (hty.symm.trans ht')
  rw [hvar, ← flat_unique n hf hd h0]
end Go.Proofs.YtokabljeekokmaaDoor
