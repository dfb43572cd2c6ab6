/-
  The reference of layer 5, first part: Coordinate.
-/
import Derived.Test.YtdcckjpeibnkbaaDoorGen3
namespace Go.Proofs.YtdcckjpeibnkbaaDoor
open Go.RowKit

theorem r5coordinate_any (a b : Int) (T : Nat → Prop) (w : World) (ha : S a) (hb : S b) (hS : ∀ b, w.heap.size ≤ b → T b) :
    Calls Tryd.prog 14 #[.int .i64 a, .int .i64 b] w (GivesNum w T 5 (a - b)) := by
  have HS := Lib.hid hS
  have hb0 : Below w.heap.size w (w.alloc (.cells #[.int .i64 0, .slice none 0 0] 30)) := (Below.refl _ _).alloc (Nat.le_refl _) _
  obtain ⟨z, hz⟩ : ∃ z, a - b = z := ⟨_, rfl⟩
  rw [hz]
  have hsub := fun (va vb : Value) (w1 : World) (h1 : NumR w1 (fun c => c ≠ w.heap.size ∧ T c) 4 va a) (h2 : NumR w1 (fun c => c ≠ w.heap.size ∧ T c) 4 vb b) (h3 : ∀ b, w1.heap.size ≤ b → (b ≠ w.heap.size ∧ T b)) => r3sub_any va vb a b 4 4 _ w1 h1 h2 (by decide) (by decide) h3
  rw [hz] at hsub
  have HSub := Lib.hid hsub
  clear hS hsub hz
  go_enter Tryd.func14, Tryd.ntmps14
  go_wp2_with (fail)
  refine (r3int_any a (fun c => c ≠ w.heap.size ∧ T c) _ (fun b hb => by simp at hb; exact ⟨by omega, HS.out b (by omega)⟩) ha).mono ?_
  rintro e w1 ⟨v1, rfl, hn1, hb1⟩
  have hbw1 := hb0.trans (hb1.mono (by simp))
  have hz1 : w.heap.size < w1.heap.size := by have := hb1.size; simp at this; omega
  have c0 := (hb1.cell (p := ⟨w.heap.size, 0, none⟩) (by simp)).trans (show _ = some (Value.int .i64 0) by simp [go_sem])
  have c1 := (hb1.cell (p := ⟨w.heap.size, 1, none⟩) (by simp)).trans (show _ = some (Value.slice none 0 0) by simp [go_sem])
  have f0 := (hb1.frozen (p := ⟨w.heap.size, 0, none⟩) (by simp)).trans (show _ = false by simp [go_sem])
  have f1 := (hb1.frozen (p := ⟨w.heap.size, 1, none⟩) (by simp)).trans (show _ = false by simp [go_sem])
  go_wp2_with (fail)
  refine (r3int_any b (fun c => c ≠ w.heap.size ∧ T c) _ (fun b hb => ⟨by omega, HS.out b (by omega)⟩) hb).mono ?_
  rintro e w2 ⟨v2, rfl, hn2, hb2⟩
  have hbw2 := hbw1.trans (hb2.mono hbw1.size)
  have hz2 : w.heap.size < w2.heap.size := by have := hb2.size; omega
  go_wp2_with (fail)
  refine (HSub.out v1 v2 _ (hn1.next hb2) hn2 (fun b hb => ⟨by omega, HS.out b (by omega)⟩)).mono ?_
  rintro e w3 ⟨_, rfl, ⟨A, c, ds, rfl, hc, hs, hn, he, hl⟩, hb3⟩
  have HE := Lib.hid he
  have hbw3 := hbw2.trans (hb3.mono hbw2.size)
  have g0 := (hb3.cell (p := ⟨w.heap.size, 0, none⟩) hz2).trans ((hb2.cell (p := ⟨w.heap.size, 0, none⟩) hz1).trans c0)
  have g1 := (hb3.cell (p := ⟨w.heap.size, 1, none⟩) hz2).trans ((hb2.cell (p := ⟨w.heap.size, 1, none⟩) hz1).trans c1)
  have k0 := (hb3.frozen (p := ⟨w.heap.size, 0, none⟩) hz2).trans ((hb2.frozen (p := ⟨w.heap.size, 0, none⟩) hz1).trans f0)
  have k1 := (hb3.frozen (p := ⟨w.heap.size, 1, none⟩) hz2).trans ((hb2.frozen (p := ⟨w.heap.size, 1, none⟩) hz1).trans f1)
  clear he c0 c1 f0 f1
  go_wp2
  have R := num_stored_at (S := T) (q := w.heap.size) (Nat.le_refl _) (fun b h => h) hc hs hn HE.out hl (Nat.le_refl _) hbw3 (.int .i64 z.sign) (.slice A ds.length c)
  exact bodyPost_ret (v := .agg #[.int .i64 z.sign, .slice A ds.length c]) (by simp [results, Tryd.results14, go_sem, g0, g1]) rfl ⟨_, rfl, R.1, R.2⟩
theorem gRefCoord {c : Ctx} {g : Gh} {w : World} {a b : Int} (hI : RInv c g w) (ha : S a) (hb : S b) :
    Calls Tryd.prog 14 #[.int .i64 a, .int .i64 b] w (Gives (NumG 5 (a - b)) g w) := r5coordinate_any a b (Off g) w ha hb hI.offs
end Go.Proofs.YtdcckjpeibnkbaaDoor
