/-
  Contracts of package limb, second part: the method that adds or subtracts limb by limb.
-/
import Derived.Test.YtehnpmkolabiaaaDoorLimbD
namespace Go.Proofs.YtehnpmkolabiaaaDoor
open Go.RowKit
set_option maxRecDepth 100000
set_option linter.unusedVariables false
set_option linter.unusedSimpArgs false

theorem own_made_f (w : World) (n : Nat) (hn : n ≤ 1000) : OwnK (w.alloc (.cells (madeCells #[.int .u64 0] n) 26)) w.heap.size 26 .u64 (.slice (some ⟨w.heap.size, 0, none⟩) n n) (List.replicate n 0) := own_made w n hn
/-- The box of the receiver, and the result beside it. -/
def Box (w : World) (f : FuncId) : World := w.alloc (.cells #[.func (.func f) #[] #[]] 101)
theorem box_below (w : World) (f : FuncId) : Below w.heap.size w (Box w f) := (Below.refl _ _).alloc (Nat.le_refl _) _

def LAddRel (W : World) (la lb : List Int) (cr i : Value) (wr : World) : Prop :=
  ∃ (k : Nat) (os : List Int) (c : Int), i = .int .i64 k ∧ cr = .int .u64 c ∧ k ≤ la.length ∧ OwnK wr (W.heap.size + 1) 26 .u64 (.slice (some ⟨W.heap.size + 1, 0, none⟩) la.length la.length) os ∧ os.length = la.length ∧ Us os ∧
    0 ≤ c ∧ c ≤ 1 ∧ uv os + M k * c = uv (la.take k) + uv (lb.take k) ∧ (∀ t, k ≤ t → dgt os t = 0) ∧ Below (W.heap.size + 1) (Box W 68) wr
set_option maxHeartbeats 4000000 in
theorem applyAdd (A B : Option Addr) (c d : Nat) (la lb : List Int) (w : World) (ha : SlR w (fun _ => True) .u64 A la) (hb : SlR w (fun _ => True) .u64 B lb) (hua : Us la) (hub : Us lb) (l1 : 1 ≤ la.length) (l8 : la.length ≤ 1000) (hl : la.length = lb.length) :
    Calls Tryd.prog 69 #[.agg #[.func (.func 68) #[] #[]], .slice A la.length c, .slice B lb.length d] w fun e w' =>
      ∃ (g cap : Nat) (os : List Int) (cr : Int), e = .returned (.tuple #[.slice (some ⟨g, 0, none⟩) os.length cap, .int .u64 cr]) ∧ os.length = la.length ∧ os.length ≤ cap ∧ w.heap.size ≤ g ∧ SlR w' (fun b => w.heap.size ≤ b) .u64 (some ⟨g, 0, none⟩) os ∧ (∀ j, w'.frozen? ⟨g, j, none⟩ = false) ∧ Us os ∧ 0 ≤ cr ∧ cr ≤ 1 ∧
        uv os + M os.length * cr = uv la + uv lb ∧ Below w.heap.size w w' := by
  have hmk := run_make_row' (P := Tryd.prog) 70 26 (.int .u64 0) 8 Tryd.underlying70 infoU rfl .i64 .i64 la.length (by omega) (by omega)
  have HLL := Lib.hid hl
  have HUA := Lib.hid hua
  have HUB := Lib.hid hub
  clear hl hua hub
  go_enter Tryd.func69, Tryd.ntmps69
  go_wp2
  go_loopw [7, 14] (fun cr i wr => LAddRel w la lb cr i wr) (fun _ i _ => la.length - (intOf i).toNat)
  case atStart =>
    have h0 := own_made_f (Box w 68) la.length l8
    exact ⟨0, List.replicate la.length 0, 0, rfl, rfl, Nat.zero_le _, by simpa [Box] using h0, List.length_replicate .., zeros_us _, by decide, by decide, by rw [zeros_uv]; simp [uv], fun t _ => by rw [dgt_replicate]; split <;> rfl, (Below.refl _ _).alloc (by simp [Box]) _⟩
  case round =>
    obtain ⟨k, os, cr, rfl, rfl, hk, hown, hlo, hu, hc0, hc1, huv, hz, hbl⟩ := hrel
    have HO := Lib.hid hown
    have HL := Lib.hid hlo
    have HU := Lib.hid hu
    have HV := Lib.hid huv
    have HZ := Lib.hid hz
    have hbw : Below w.heap.size w wr := (box_below w 68).trans (hbl.mono (by omega))
    have hsz : w.heap.size < wr.heap.size := by have := hbl.size; simp [Box] at this; omega
    have hbx : wr.cell? ⟨w.heap.size, 0, none⟩ = some (.func (.func 68) #[] #[]) := (hbl.cell (p := ⟨w.heap.size, 0, none⟩) (by simp)).trans (by simp [Box, go_sem])
    clear hown hlo hu huv hz
    by_cases hgo : k < la.length
    · have hgo2 : k < lb.length := by rw [← HLL.out]; exact hgo
      obtain ⟨b, off, rfl, _, hca⟩ := (ha.next hbw).at_ hgo
      obtain ⟨b2, off2, rfl, _, hcb⟩ := (hb.next hbw).at_ hgo2
      rw [← dgt_lt hgo] at hca
      rw [← dgt_lt hgo2] at hcb
      have hco := HO.out.cell_ HL.out hgo
      have hfo := HO.out.frozen_ HL.out k
      have hUa := HUA.out.dgt k
      have hUb := HUB.out.dgt k
      have hUc : U cr := by unfold U; omega
      have HC := Lib.hid (show cr % 2 = cr by omega)
      clear ha hb
      go_wp2_with (fail)
      go_region_law (first | (go_simp; go_at_call 68; refine (wordAdd_any _ _ _ hUa hUb hUc _).mono ?_; rintro e w' ⟨rfl, hw'⟩; obtain rfl := hw'.symm))
      all_goals go_wp2_with (fail)
      all_goals
        go_roundw
        case rel =>
          have hp : k < os.length := by rw [HL.out]; exact hgo
          refine ⟨k + 1, os.set k (lo (dgt la k + dgt lb k + cr % 2)), _, by go_num, rfl, hgo, (OwnK.set_ (os := os) (by exact HO.out) HL.out k _).1, by rw [List.length_set]; exact HL.out, HU.out.set_ _ (U_lo _), ?_, ?_, uadd_step hp (HZ.out k (Nat.le_refl _)) (by rw [HC.out]) HV.out,
            fun t ht => by rw [dgt_set _ hp, if_neg (by omega)]; exact HZ.out t (by omega), (below_drewN' hbl 1).setCell (p := ⟨w.heap.size + 1, k, none⟩) (Nat.le_refl _) _⟩
          · exact (hi_sum hUa hUb (by omega) (by omega)).1
          · exact (hi_sum hUa hUb (by omega) (by omega)).2
        case measure => simp [intOf]; omega
    · have hkl : la.length ≤ k := by omega
      have HE := Lib.hid (show uv os + M os.length * cr = uv la + uv lb by
        have h := HV.out
        rw [List.take_of_length_le hkl, List.take_of_length_le (by have := HLL.out; omega)] at h
        rw [HL.out, show la.length = k by omega]; exact h)
      have hsl := HO.out.form
      obtain ⟨A1, c1', hv, hcap, _, hsl⟩ := hsl
      rw [HL.out] at hv
      injection hv with ev1 ev2 ev3
      subst ev1
      subst ev3
      have HS := Lib.hid hsl
      have HCap := Lib.hid hcap
      clear hsl hcap ha hb ev2
      go_wp2
      go_ret2
      exact ⟨w.heap.size + 1, la.length, os, cr, by rw [HL.out]; rfl, HL.out, by rw [HL.out]; exact Nat.le_refl _, by omega, (HS.out).imp (fun b hb => by omega), fun j => HO.out.frozen_ HL.out j, HU.out, hc0, hc1, HE.out, hbw⟩

def LSubRel (W : World) (la lb : List Int) (cr i : Value) (wr : World) : Prop :=
  ∃ (k : Nat) (os : List Int) (c : Int), i = .int .i64 k ∧ cr = .int .u64 c ∧ k ≤ la.length ∧ OwnK wr (W.heap.size + 1) 26 .u64 (.slice (some ⟨W.heap.size + 1, 0, none⟩) la.length la.length) os ∧ os.length = la.length ∧ Us os ∧
    0 ≤ c ∧ c ≤ 1 ∧ uv os - M k * c = uv (la.take k) - uv (lb.take k) ∧ (∀ t, k ≤ t → dgt os t = 0) ∧ Below (W.heap.size + 1) (Box W 81) wr
set_option maxHeartbeats 4000000 in
theorem applySub (A B : Option Addr) (c d : Nat) (la lb : List Int) (w : World) (ha : SlR w (fun _ => True) .u64 A la) (hb : SlR w (fun _ => True) .u64 B lb) (hua : Us la) (hub : Us lb) (l1 : 1 ≤ la.length) (l8 : la.length ≤ 1000) (hl : la.length = lb.length) :
    Calls Tryd.prog 69 #[.agg #[.func (.func 81) #[] #[]], .slice A la.length c, .slice B lb.length d] w fun e w' =>
      ∃ (g cap : Nat) (os : List Int) (cr : Int), e = .returned (.tuple #[.slice (some ⟨g, 0, none⟩) os.length cap, .int .u64 cr]) ∧ os.length = la.length ∧ os.length ≤ cap ∧ w.heap.size ≤ g ∧ SlR w' (fun b => w.heap.size ≤ b) .u64 (some ⟨g, 0, none⟩) os ∧ (∀ j, w'.frozen? ⟨g, j, none⟩ = false) ∧ Us os ∧ 0 ≤ cr ∧ cr ≤ 1 ∧
        uv os - M os.length * cr = uv la - uv lb ∧ Below w.heap.size w w' := by
  have hmk := run_make_row' (P := Tryd.prog) 70 26 (.int .u64 0) 8 Tryd.underlying70 infoU rfl .i64 .i64 la.length (by omega) (by omega)
  have HLL := Lib.hid hl
  have HUA := Lib.hid hua
  have HUB := Lib.hid hub
  clear hl hua hub
  go_enter Tryd.func69, Tryd.ntmps69
  go_wp2
  go_loopw [7, 14] (fun cr i wr => LSubRel w la lb cr i wr) (fun _ i _ => la.length - (intOf i).toNat)
  case atStart =>
    have h0 := own_made_f (Box w 81) la.length l8
    exact ⟨0, List.replicate la.length 0, 0, rfl, rfl, Nat.zero_le _, by simpa [Box] using h0, List.length_replicate .., zeros_us _, by decide, by decide, by rw [zeros_uv]; simp [uv], fun t _ => by rw [dgt_replicate]; split <;> rfl, (Below.refl _ _).alloc (by simp [Box]) _⟩
  case round =>
    obtain ⟨k, os, cr, rfl, rfl, hk, hown, hlo, hu, hc0, hc1, huv, hz, hbl⟩ := hrel
    have HO := Lib.hid hown
    have HL := Lib.hid hlo
    have HU := Lib.hid hu
    have HV := Lib.hid huv
    have HZ := Lib.hid hz
    have hbw : Below w.heap.size w wr := (box_below w 81).trans (hbl.mono (by omega))
    have hsz : w.heap.size < wr.heap.size := by have := hbl.size; simp [Box] at this; omega
    have hbx : wr.cell? ⟨w.heap.size, 0, none⟩ = some (.func (.func 81) #[] #[]) := (hbl.cell (p := ⟨w.heap.size, 0, none⟩) (by simp)).trans (by simp [Box, go_sem])
    clear hown hlo hu huv hz
    by_cases hgo : k < la.length
    · have hgo2 : k < lb.length := by rw [← HLL.out]; exact hgo
      obtain ⟨b, off, rfl, _, hca⟩ := (ha.next hbw).at_ hgo
      obtain ⟨b2, off2, rfl, _, hcb⟩ := (hb.next hbw).at_ hgo2
      rw [← dgt_lt hgo] at hca
      rw [← dgt_lt hgo2] at hcb
      have hco := HO.out.cell_ HL.out hgo
      have hfo := HO.out.frozen_ HL.out k
      have hUa := HUA.out.dgt k
      have hUb := HUB.out.dgt k
      have hUc : U cr := by unfold U; omega
      have HC := Lib.hid (show cr % 2 = cr by omega)
      clear ha hb
      go_wp2_with (fail)
      go_region_law (first | (go_simp; go_at_call 81; refine (wordSub_any _ _ _ hUa hUb hUc _).mono ?_; rintro e w' ⟨rfl, hw'⟩; obtain rfl := hw'.symm))
      all_goals go_wp2_with (fail)
      all_goals
        go_roundw
        case rel =>
          have hp : k < os.length := by rw [HL.out]; exact hgo
          refine ⟨k + 1, os.set k (lo (dgt la k - dgt lb k - cr % 2)), _, by go_num, rfl, hgo, (OwnK.set_ (os := os) (by exact HO.out) HL.out k _).1, by rw [List.length_set]; exact HL.out, HU.out.set_ _ (U_lo _), ?_, ?_, usub_step hp (HZ.out k (Nat.le_refl _)) (by rw [HC.out]) HV.out,
            fun t ht => by rw [dgt_set _ hp, if_neg (by omega)]; exact HZ.out t (by omega), (below_drewN' hbl 1).setCell (p := ⟨w.heap.size + 1, k, none⟩) (Nat.le_refl _) _⟩
          · exact (bo_diff hUa hUb (by omega) (by omega)).1
          · exact (bo_diff hUa hUb (by omega) (by omega)).2
        case measure => simp [intOf]; omega
    · have hkl : la.length ≤ k := by omega
      have HE := Lib.hid (show uv os - M os.length * cr = uv la - uv lb by
        have h := HV.out
        rw [List.take_of_length_le hkl, List.take_of_length_le (by have := HLL.out; omega)] at h
        rw [HL.out, show la.length = k by omega]; exact h)
      have hsl := HO.out.form
      obtain ⟨A1, c1', hv, hcap, _, hsl⟩ := hsl
      rw [HL.out] at hv
      injection hv with ev1 ev2 ev3
      subst ev1
      subst ev3
      have HS := Lib.hid hsl
      have HCap := Lib.hid hcap
      clear hsl hcap ha hb ev2
      go_wp2
      go_ret2
      exact ⟨w.heap.size + 1, la.length, os, cr, by rw [HL.out]; rfl, HL.out, by rw [HL.out]; exact Nat.le_refl _, by omega, (HS.out).imp (fun b hb => by omega), fun j => HO.out.frozen_ HL.out j, HU.out, hc0, hc1, HE.out, hbw⟩
end Go.Proofs.YtehnpmkolabiaaaDoor
